import PyProof.Rows.All
import Wide.All
import OpenK.AllK
import Wide.FinOn
import Lean
import PyProof.EqAt
import PyProof.EqKinds
import PyProof.TupleCall
import PySem.Challenge.RW_wholeglance_k61_closer_fit
set_option Elab.async false
set_option linter.all false
set_option maxRecDepth 100000
namespace L2
open PySem PySem.Spec PyProof.Rows
noncomputable abbrev Key := Sum Int Str
noncomputable def keyIs : Key → Value → Bool
  | .inl k, v => Value.isInt k v
  | .inr x, v => Value.isStrOf x v
noncomputable def keyH (w : World) : Key → Int
  | .inl k => hashInt k
  | .inr x => hashStr w x
theorem keyIs_shape : ∀ {k : Key} {v : Value}, keyIs k v = true → (∃ i t, k = Sum.inl i ∧ v = Value.int i t) ∨ (∃ x t, k = Sum.inr x ∧ v = Value.str x t)
  | .inl i, v, h => by
    obtain ⟨t, e⟩ := Value.isInt_shape (k := i) (v := v) h
    exact .inl ⟨i, t, rfl, e⟩
  | .inr x, v, h => by
    obtain ⟨t, e⟩ := Value.isStrOf_shape (x := x) (v := v) h
    exact .inr ⟨x, t, rfl, e⟩
theorem keyIs_str (x : Str) (t : Tok) : keyIs (.inr x) (.str x t) = true := by simp [keyIs, Value.isStrOf]
theorem key_ll (a b : Int) : decide ((Sum.inl a : Key) = Sum.inl b) = (a == b) := by
  by_cases e : a = b
  · subst e; simp
  · have h : ¬ (Sum.inl a : Key) = Sum.inl b := fun q => e (Sum.inl.inj q)
    rw [decide_eq_false h]
    exact (beq_eq_false_iff_ne.mpr e).symm
theorem key_rr (a b : Str) : decide ((Sum.inr a : Key) = Sum.inr b) = decide (a = b) := by
  by_cases e : a = b
  · subst e; simp
  · have h : ¬ (Sum.inr a : Key) = Sum.inr b := fun q => e (Sum.inr.inj q)
    rw [decide_eq_false h, decide_eq_false e]
theorem key_lr (a : Int) (b : Str) : decide ((Sum.inl a : Key) = Sum.inr b) = false := decide_eq_false (fun q => nomatch q)
theorem key_rl (a : Str) (b : Int) : decide ((Sum.inr a : Key) = Sum.inl b) = false := decide_eq_false (fun q => nomatch q)
noncomputable def mixKind (prog : Program) (w : World) : PySem.KeyKind prog w Key where
  is := keyIs
  hash := keyH w
  inj := fun v a b ha hb => by
    rcases keyIs_shape ha with ⟨i, t, rfl, rfl⟩ | ⟨x, t, rfl, rfl⟩
    · rcases keyIs_shape hb with ⟨j, u, rfl, e⟩ | ⟨y, u, rfl, e⟩
      · injection e with e1 _; rw [e1]
      · exact nomatch e
    · rcases keyIs_shape hb with ⟨j, u, rfl, e⟩ | ⟨y, u, rfl, e⟩
      · exact nomatch e
      · injection e with e1 _; rw [e1]
  byValue := fun k v h => by
    rcases keyIs_shape h with ⟨i, t, rfl, rfl⟩ | ⟨x, t, rfl, rfl⟩ <;> rfl
  pyHash := fun hv h => by
    rcases keyIs_shape hv with ⟨i, t, rfl, rfl⟩ | ⟨x, t, rfl, rfl⟩
    · exact wpAny_pyHash_int h
    · exact wpAny_pyHash_str h
  eqBool := fun hu hv h => by
    rcases keyIs_shape hu with ⟨i, t, rfl, rfl⟩ | ⟨x, t, rfl, rfl⟩
    · rcases keyIs_shape hv with ⟨j, u, rfl, rfl⟩ | ⟨y, u, rfl, rfl⟩
      · rw [key_ll] at h; exact wpAny_eqBool_int h
      · rw [key_lr] at h; exact SeqAt.EqAt.int_str i t y u _ _ _ _ h
    · rcases keyIs_shape hv with ⟨j, u, rfl, rfl⟩ | ⟨y, u, rfl, rfl⟩
      · rw [key_rl] at h; exact SeqAt.EqAt.str_int x t j u _ _ _ _ h
      · rw [key_rr] at h; exact wpAny_eqBool_str h
  «strs» := fun k x t v h => by
    rcases keyIs_shape h with ⟨i, u, rfl, e⟩ | ⟨y, u, rfl, e⟩
    · exact nomatch e
    · injection e with e1 _
      subst e1
      cases v <;> rfl
theorem mixKind_str (prog : Program) (w : World) (x : Str) (t : Tok) : (mixKind prog w).is (.inr x) (.str x t) = true := keyIs_str x t
end L2
namespace L2
open PySem PySem.Spec PyProof.Rows
inductive V where
  | non | bl (b : Bool) | int (i : Int) | str (x : Str) | byt (b : Array UInt8) | flt (b : UInt64) | ref (a : Addr) | ty (n : String)
  deriving DecidableEq
noncomputable def RelV : V → Value → Prop
  | .non, u => u = Value.none
  | .bl b, u => u = Value.bool b
  | .int i, u => ∃ t, u = Value.int i t
  | .str x, u => ∃ t, u = Value.str x t
  | .byt b, u => ∃ t, u = Value.bytes b t
  | .flt b, u => ∃ t, u = Value.float b t
  | .ref a, u => u = Value.ref a
  | .ty n, u => u = Value.type n
noncomputable abbrev Vals : List V → List Value → Prop := Paired RelV
theorem Vals.length {xs : List V} {us : List Value} (r : Vals xs us) : xs.length = us.length := Paired.length r
theorem Vals.get : ∀ {xs : List V} {us : List Value} {i : Nat} {x : V}, Vals xs us → xs[i]? = some x → ∃ u, us[i]? = some u ∧ RelV x u
  | _, _, _, _, .nil, e => by simp at e
  | _, _, 0, _, .cons r _, e => by simp at e; subst e; exact ⟨_, rfl, r⟩
  | _, _, i + 1, x, .cons _ t, e => by
    obtain ⟨u, h1, h2⟩ := Vals.get (i := i) (x := x) t (by simpa using e)
    exact ⟨u, by simpa using h1, h2⟩
theorem Vals.set {x : V} {u : Value} (r : RelV x u) : ∀ {xs : List V} {us : List Value} (i : Nat), Vals xs us → Vals (xs.set i x) (us.set i u)
  | _, _, _, .nil => .nil
  | _, _, 0, .cons _ t => .cons r t
  | _, _, i + 1, .cons q t => .cons q (Vals.set r i t)
theorem Vals.append : ∀ {xs ys : List V} {us ws : List Value}, Vals xs us → Vals ys ws → Vals (xs ++ ys) (us ++ ws)
  | _, _, _, _, .nil, s => s
  | _, _, _, _, .cons r t, s => .cons r (Vals.append t s)
theorem Vals.take : ∀ {xs : List V} {us : List Value} (n : Nat), Vals xs us → Vals (xs.take n) (us.take n)
  | _, _, 0, _ => .nil
  | _, _, _ + 1, .nil => .nil
  | _, _, n + 1, .cons r t => .cons r (Vals.take n t)
theorem Vals.drop : ∀ {xs : List V} {us : List Value} (n : Nat), Vals xs us → Vals (xs.drop n) (us.drop n)
  | _, _, 0, r => r
  | _, _, _ + 1, .nil => .nil
  | _, _, n + 1, .cons _ t => Vals.drop n t
noncomputable def RelO : Option V → Option Value → Prop
  | some v, some u => RelV v u
  | none, none => True
  | _, _ => False
noncomputable def KV {κ : Type} : List (κ × V) → List (κ × Value) → Prop := Paired fun (p : κ × V) (q : κ × Value) => p.1 = q.1 ∧ RelV p.2 q.2
noncomputable def kV : Key → V
  | .inl i => .int i
  | .inr x => .str x
inductive HO where
  
  | lst (xs : List V)
  
  | tup (xs : List V)
  
  | dK (kvs : List (Key × V)) | dT (kvs : List (List Key × V))
  
  | set (S : Int → Bool) (n : Nat)
  
  | ins (C dx : Addr) (fs : List (Str × V))
  
  | own (x : Addr)
  
  | xd (fs : List (Str × V))
  
  | met (f x : Addr)
  
  | rng (lo hi : Int)
  
  | frz (o : Obj) (u : HO)
  
  | tbl (ps : Array Value)
  
  | ext (φ : Heap → Prop)
noncomputable abbrev Hp := Addr → Option HO
noncomputable def upd (H : Hp) (a : Addr) (o : HO) : Hp := fun b => if b = a then some o else H b
theorem upd_same {H : Hp} {a : Addr} {o : HO} : upd H a o a = some o := by unfold upd; rw [if_pos rfl]
theorem upd_ne {H : Hp} {a b : Addr} {o : HO} (h : b ≠ a) : upd H a o b = H b := by unfold upd; rw [if_neg h]
theorem ne_of {H : Hp} {a b : Addr} {o u : HO} (h : H a = some o) (h' : H b = some u) (d : o ≠ u) : a ≠ b := by
  intro e; subst e; rw [h] at h'; exact d (Option.some.inj h')
theorem ne_of_none {H : Hp} {a b : Addr} {o : HO} (h : H a = some o) (h' : H b = none) : a ≠ b := by
  intro e; subst e; rw [h] at h'; cases h'
section
variable (P : Program) (w : World)
noncomputable def ObjOk (H : Hp) (h : Heap) (a : Addr) : HO → Prop
  | .lst xs => xs.length ≤ sizeLine ∧ ∃ (its : List Value) (n : Nat), Vals xs its ∧ h.get? a = some { cls := .type "list", data := .seq its.toArray n }
  | .tup xs => xs.length ≤ sizeLine ∧ ∃ its : List Value, Vals xs its ∧ IsTup h a its.toArray
  | .dK kvs => kvs.length ≤ sizeLine ∧ (a == sysModules) = false ∧ ∃ vs, KV kvs vs ∧ h.DictOf (mixKind P w) a vs
  | .dT kvs => kvs.length ≤ sizeLine ∧ (a == sysModules) = false ∧ ∃ xs : List (List Key × Addr × Value),
      Paired (fun (p : List Key × V) (q : List Key × Addr × Value) => p.1 = q.1 ∧ H q.2.1 = some (.tup (p.1.map kV)) ∧ RelV p.2 q.2.2) kvs xs ∧
      ∃ o es ep, h.get? a = some o ∧ o.ExactDict ∧ o.data = .dict es ep ∧ es.toList = xs.map (entryOfKey (tupleKind (mixKind P w))) ∧ (xs.map (·.1)).Nodup
  | .set S n => h.SetOf (intKind P w) a S n
  | .ins C dx fs => H dx = some (.own a) ∧ fs.length ≤ 1000 ∧ dx ≠ a ∧ h.get? a = some (PySem.W.instObj C dx) ∧
      ∃ mA, h.Ns1 dx mA ∧ (∀ f, RelO (fs.lookup f) (mA f)) ∧ PySem.Within mA (fs.map (·.1))
  | .own _ => ∃ o, h.get? a = some o
  | .xd fs => ∃ mA, h.Ns1 a mA ∧ ∀ f, RelO (fs.lookup f) (mA f)
  | .rng lo hi => ∃ t u v, h.get? a = some { cls := .type "range", data := .fields #[.int lo t, .int hi u, .int 1 v] }
  | .frz o u => h.get? a = some o ∧ ObjOk H h a u
  | .tbl ps => h.get? a = some { cls := .none, data := .fields ps }
  | .met f x => h.get? a = some (PySem.W.methodObj (.ref f) (.ref x))
  | .ext φ => φ h ∧ (∃ o, h.get? a = some o) ∧ ∀ h1 h2 : Heap, φ h1 → (∀ o, h1.get? a = some o → h2.get? a = some o) → φ h2
noncomputable def HOk (H : Hp) (h : Heap) : Prop := ∀ a o, H a = some o → ObjOk P w H h a o
end
section
variable {P : Program} {w : World} {H H' : Hp} {h h' : Heap} {a : Addr} {o : HO}
theorem ObjOk.lt (x : ObjOk P w H h a o) : a < h.objs.size := by
  cases o with
  | lst xs => obtain ⟨_, _, _, _, e⟩ := x; exact Heap.lt_size e
  | tup xs => obtain ⟨_, _, _, p⟩ := x; exact p.lt
  | dK kvs => obtain ⟨_, _, _, _, o, _, _, e, _⟩ := x; exact Heap.lt_size e
  | dT kvs => obtain ⟨_, _, _, _, o, _, _, e, _⟩ := x; exact Heap.lt_size e
  | set S n => obtain ⟨o, _, _, _, e, _⟩ := x; exact Heap.lt_size e
  | ins C dx fs => obtain ⟨_, _, _, e, _⟩ := x; exact Heap.lt_size e
  | own y => obtain ⟨_, e⟩ := x; exact Heap.lt_size e
  | xd fs => obtain ⟨_, ⟨_, _, _, e, _⟩, _⟩ := x; exact Heap.lt_size e
  | rng lo hi => obtain ⟨_, _, _, e⟩ := x; exact Heap.lt_size e
  | frz ob u => obtain ⟨e, _⟩ := x; exact Heap.lt_size e
  | tbl ps => exact Heap.lt_size (show h.get? a = some _ from x)
  | met f y => exact Heap.lt_size (show h.get? a = some _ from x)
  | ext φ => obtain ⟨_, ⟨_, e⟩, _⟩ := x; exact Heap.lt_size e
theorem Paired.mapP {α β : Type} {F G : α → β → Prop} : ∀ {l₁ : List α} {l₂ : List β}, Paired F l₁ l₂ → (∀ a b, F a b → G a b) → Paired G l₁ l₂
  | _, _, .nil, _ => .nil
  | _, _, .cons r t, f => .cons (f _ _ r) (Paired.mapP t f)
theorem ObjOk.stay (x : ObjOk P w H h a o) (k : ∀ b u, (b = a ∨ H b = some (.own a)) → h.get? b = some u → h'.get? b = some u)
    (ho : ∀ b, H b = some (.own a) → H' b = some (.own a)) (ht : ∀ b xs, H b = some (.tup xs) → H' b = some (.tup xs)) : ObjOk P w H' h' a o := by
  induction o with
  | lst xs => obtain ⟨z, its, n, r, e⟩ := x; exact ⟨z, its, n, r, k _ _ (.inl rfl) e⟩
  | tup xs => obtain ⟨z, its, r, ob, e, c⟩ := x; exact ⟨z, its, r, ob, k _ _ (.inl rfl) e, c⟩
  | dK kvs => obtain ⟨z, y, vs, r, ob, es, ep, e, c⟩ := x; exact ⟨z, y, vs, r, ob, es, ep, k _ _ (.inl rfl) e, c⟩
  | dT kvs =>
    obtain ⟨z, y, xs, r, ob, es, ep, e, c⟩ := x
    exact ⟨z, y, xs, Paired.mapP r fun p q z => ⟨z.1, ht _ _ z.2.1, z.2.2⟩, ob, es, ep, k _ _ (.inl rfl) e, c⟩
  | set S n => obtain ⟨ob, es, ep, t, e, c⟩ := x; exact ⟨ob, es, ep, t, k _ _ (.inl rfl) e, c⟩
  | ins C dx fs =>
    obtain ⟨d, z, ne, e, mA, ⟨od, es, ep, e2, c⟩, r⟩ := x
    exact ⟨ho _ d, z, ne, k _ _ (.inl rfl) e, mA, ⟨od, es, ep, k _ _ (.inr d) e2, c⟩, r⟩
  | own y => obtain ⟨ob, e⟩ := x; exact ⟨ob, k _ _ (.inl rfl) e⟩
  | xd fs => obtain ⟨mA, ⟨od, es, ep, e, c⟩, r⟩ := x; exact ⟨mA, ⟨od, es, ep, k _ _ (.inl rfl) e, c⟩, r⟩
  | rng lo hi => obtain ⟨t, u, v, e⟩ := x; exact ⟨t, u, v, k _ _ (.inl rfl) e⟩
  | frz ob u ih => obtain ⟨e, q⟩ := x; exact ⟨k _ _ (.inl rfl) e, ih q⟩
  | tbl ps =>
    have e : h.get? a = some { cls := .none, data := .fields ps } := x
    show h'.get? a = some { cls := .none, data := .fields ps }
    exact k a _ (.inl rfl) e
  | met f y =>
    have e : h.get? a = some (PySem.W.methodObj (.ref f) (.ref y)) := x
    show h'.get? a = some (PySem.W.methodObj (.ref f) (.ref y))
    exact k a _ (.inl rfl) e
  | ext φ => obtain ⟨p, ⟨o, e⟩, st⟩ := x; exact ⟨st _ _ p fun o q => k _ _ (.inl rfl) q, ⟨o, k _ _ (.inl rfl) e⟩, st⟩
theorem HOk.lt (x : HOk P w H h) (e : H a = some o) : a < h.objs.size := (x a o e).lt
theorem HOk.fresh (x : HOk P w H h) (e : h.objs.size ≤ a) : H a = none := by
  cases q : H a with
  | none => rfl
  | some u => exact absurd (Nat.lt_of_lt_of_le (x.lt q) e) (Nat.lt_irrefl _)
theorem HOk.kept (x : HOk P w H h) (k : ∀ b u, h.get? b = some u → h'.get? b = some u) : HOk P w H h' := fun a o e =>
  (x a o e).stay (fun b u _ q => k b u q) (fun _ q => q) fun _ _ q => q
theorem HOk.laid (x : HOk P w H h) (k : ∀ b u, h.get? b = some u → h'.get? b = some u) (hp : h.objs.size ≤ a) (new : ObjOk P w (upd H a o) h' a o) : HOk P w (upd H a o) h' := fun b u e => by
  have hn := x.fresh hp
  by_cases hb : b = a
  · subst hb; rw [upd_same] at e; cases e; exact new
  · rw [upd_ne hb] at e
    exact (x b u e).stay (fun c v _ q => k c v q) (fun c q => by rw [upd_ne (ne_of_none q hn)]; exact q) fun c xs q => by rw [upd_ne (ne_of_none q hn)]; exact q
end
noncomputable def Rd (H : Hp) (a : Addr) (u : HO) : Prop := H a = some u ∨ ∃ o, H a = some (.frz o u)
theorem Rd.ok {P : Program} {w : World} {H : Hp} {h : Heap} {a : Addr} {u : HO} (r : Rd H a u) (x : HOk P w H h) : ObjOk P w H h a u := by
  rcases r with r | ⟨o, r⟩
  · exact x a u r
  · obtain ⟨_, q⟩ := x a _ r
    exact q
noncomputable def Mut : Option HO → Prop
  | some (.lst _) => True
  | some (.dK _) => True
  | some (.dT _) => True
  | some (.set _ _) => True
  | some (.ins _ _ _) => True
  | some (.ext _) => True
  | _ => False
section
variable {P : Program} {w : World} {H : Hp} {h h' : Heap} {x e : Addr} {o' : HO}
theorem HOk.write (ok : HOk P w H h) (mu : Mut (H x)) (he : e = x ∨ H e = some (.own x)) (k : ∀ b u, b ≠ e → h.get? b = some u → h'.get? b = some u) (heo : ∃ u, h'.get? e = some u)
    (new : ObjOk P w (upd H x o') h' x o') : HOk P w (upd H x o') h' := fun b u q => by
  have nown : ∀ c y, H c = some (.own y) → c ≠ x := fun c y r z => by subst z; rw [r] at mu; exact mu
  have ntup : ∀ c xs, H c = some (.tup xs) → c ≠ x := fun c xs r z => by subst z; rw [r] at mu; exact mu
  by_cases hb : b = x
  · subst hb; rw [upd_same] at q; cases q; exact new
  · rw [upd_ne hb] at q
    by_cases hbe : b = e
    · have q' : H b = some (.own x) := by
        rcases he with z | z
        · exact absurd (hbe.trans z) hb
        · rw [hbe]; exact z
      rw [q] at q'; cases q'
      obtain ⟨v, hv⟩ := heo
      exact ⟨v, by rw [hbe]; exact hv⟩
    · refine (ok b u q).stay (fun c v hc r => k c v ?_ r) (fun c r => by rw [upd_ne (nown c b r)]; exact r) fun c xs r => by rw [upd_ne (ntup c xs r)]; exact r
      rcases hc with rfl | hc
      · exact hbe
      · rintro rfl
        rcases he with z | z
        · exact nown c b hc z
        · rw [hc] at z; cases z; exact hb rfl
end
structure Un (fs ex : List Addr) (H H' : Hp) (h h' : Heap) : Prop where
  keep : ∀ b o, h.get? b = some o → H b = none → b ∉ fs → b ∉ ex → h'.get? b = some o
  slot : ∀ b o, h.get? b = some o → H b = none → b ∈ fs → b ∉ ex → ∃ sl, h'.get? b = some { o with slots := sl }
  free : ∀ b o, h.get? b = some o → H b = none → b ∉ ex → H' b = none
  there : ∀ b o, h.get? b = some o → b ∉ ex → ∃ o', h'.get? b = some o'
  tups : ∀ b xs, H b = some (.tup xs) → H' b = some (.tup xs)
  frzs : ∀ b o u, H b = some (.frz o u) → H' b = some (.frz o u)
  tbls : ∀ b ps, H b = some (.tbl ps) → ∃ more, H' b = some (.tbl (ps ++ more))
section
variable {fs fs' ex ex' : List Addr} {H H1 H2 : Hp} {h h1 h2 h' : Heap} {a x e : Addr} {o : HO}
theorem Un.any (u : Un fs ex H H1 h h1) {b : Addr} {ob : Obj} (q : h.get? b = some ob) (n : H b = none) (hx : b ∉ ex) : ∃ sl, h1.get? b = some { ob with slots := sl } := by
  by_cases hb : b ∈ fs
  · exact u.slot b ob q n hb hx
  · exact ⟨ob.slots, u.keep b ob q n hb hx⟩
theorem Un.kept (k : ∀ b u, h.get? b = some u → h'.get? b = some u) : Un fs ex H H h h' :=
  ⟨fun b ob q _ _ _ => k b ob q, fun b ob q _ _ _ => ⟨ob.slots, k b ob q⟩, fun _ _ _ n _ => n, fun b ob q _ => ⟨ob, k b ob q⟩, fun _ _ q => q, fun _ _ _ q => q, fun _ ps q => ⟨#[], by rw [q]; simp⟩⟩
theorem Un.refl : Un fs ex H H h h := Un.kept fun _ _ q => q
theorem Un.laid (k : ∀ b u, h.get? b = some u → h'.get? b = some u) (hp : h.objs.size ≤ a) (hn : H a = none) : Un fs ex H (upd H a o) h h' where
  keep := fun b u q _ _ _ => k b u q
  slot := fun b u q _ _ _ => ⟨u.slots, k b u q⟩
  free := fun b u q n _ => by rw [upd_ne (Nat.ne_of_lt (Nat.lt_of_lt_of_le (Heap.lt_size q) hp))]; exact n
  there := fun b u q _ => ⟨u, k b u q⟩
  tups := fun b xs q => by rw [upd_ne (ne_of_none q hn)]; exact q
  frzs := fun b u xs q => by rw [upd_ne (ne_of_none q hn)]; exact q
  tbls := fun b ps q => ⟨#[], by rw [upd_ne (ne_of_none q hn), q]; simp⟩
theorem Un.write (mu : Mut (H x)) (he : e = x ∨ H e = some (.own x)) (k : ∀ b u, b ≠ e → h.get? b = some u → h'.get? b = some u) (heo : ∃ u, h'.get? e = some u) : Un fs ex H (upd H x o) h h' := by
  have hx : ∀ b, H b = none → b ≠ x := fun b n z => by subst z; rw [n] at mu; exact mu
  have hb : ∀ b, H b = none → b ≠ e := fun b n z => by
    subst z
    rcases he with r | r
    · exact hx b n r
    · rw [n] at r; cases r
  have hm : ∀ b u, H b = some u → ¬ Mut (some u) → b ≠ x := fun b u q nm z => by subst z; rw [q] at mu; exact nm mu
  refine ⟨fun b u q n _ _ => k b u (hb b n) q, fun b u q n _ _ => ⟨u.slots, k b u (hb b n) q⟩, fun b u q n _ => by rw [upd_ne (hx b n)]; exact n, fun b u q _ => ?_,
    fun b xs q => by rw [upd_ne (hm b _ q fun z => z)]; exact q, fun b u xs q => by rw [upd_ne (hm b _ q fun z => z)]; exact q, fun b ps q => ⟨#[], by rw [upd_ne (hm b _ q fun z => z), q]; simp⟩⟩
  by_cases hbe : b = e
  · subst hbe; exact heo
  · exact ⟨u, k b u hbe q⟩
end
noncomputable def trk (h : Heap) (H : Hp) : List Addr := (List.range h.objs.size).filter fun a => (H a).isSome
noncomputable def hidT (h : Heap) (H : Hp) : Heap := PySem.W.hideAll h (trk h H)
theorem hidT_size (h : Heap) (H : Hp) : (hidT h H).objs.size = h.objs.size := PySem.W.hideAll_size _ _
theorem hidT_get {h : Heap} {H : Hp} {b : Addr} {o : Obj} (e : h.get? b = some o) (n : H b = none) : (hidT h H).get? b = some o :=
  PySem.W.hideAll_get _ e fun hm => by
    have q : (H b).isSome = true := (List.mem_filter.mp hm).2
    rw [n] at q; simp at q
theorem of_hidT {h : Heap} {H : Hp} {b : Addr} {o : Obj} (e : (hidT h H).get? b = some o) : h.get? b = some o ∧ H b = none := by
  have e' : h.get? b = some o := PySem.W.of_hideAll (trk h H) e
  refine ⟨e', ?_⟩
  cases q : H b with
  | none => rfl
  | some x =>
    have hm : b ∈ trk h H := List.mem_filter.mpr ⟨List.mem_range.mpr (Heap.lt_size e'), by simp [q]⟩
    have z : (hidT h H).get? b = none := PySem.W.hideAll_none (trk h H) hm
    rw [z] at e; cases e
noncomputable def allNews (g h : Heap) (L : Addr) : List (Addr × Obj) := (List.range h.objs.size).filterMap fun a => if a = L ∨ (g.get? a).isSome = true then none else (h.get? a).map fun o => (a, o)
noncomputable def rest (g h : Heap) (L d : Addr) : List (Addr × Obj) := (allNews g h L).filter fun p => decide (p.1 ≠ d)
end L2
namespace L2
open PySem PySem.Spec PyProof.Rows
structure Mod (K : PySem.W.Frag) (mg : Str → Option Value) (base : Heap) : Prop where
  kin : K.In base
  glob : base.Ns mainGlobals mg
  blt : ∃ mb, base.Ns builtinsNs mb ∧ ∀ x : Str, x ≠ "__name__" → mb x = bootBuiltins x
  nolimit : base.NoLimit
structure Cx where
  prog : Program
  w : World
  K : PySem.W.Frag
  mg : Str → Option Value
  base : Heap
  A : Around
  N : List Str
  s₀ : Shared
  H₀ : Hp
  env : Env
  outer : List Env
  stack : List Env
  ex : List Addr
  fn : Str → Bool
  calm : Bool
  pn : List (Addr × Obj)
  xe : Value → Shared → Prop
noncomputable def frs (l : List Env) : List Addr := l.filterMap (·.frame)
noncomputable abbrev Cx.fs (X : Cx) : List Addr := frs X.outer
noncomputable def Vis (sc : Scope) (x : Str) : Prop := sc.names.lookup x = some .local ∨ sc.names.lookup x = some .cell ∨ sc.names.lookup x = some .free
noncomputable def Loc (sc : Scope) (x : Str) : Prop := sc.names.lookup x = some .local ∨ sc.names.lookup x = some .cell
noncomputable def Look (env : Env) (h : Heap) (m : Str → Option Value) (x : Str) (u : Value) : Prop :=
  (env.kindOf x = some .local ∧ m x = some u) ∨ ((env.kindOf x = some .cell ∨ env.kindOf x = some .free) ∧ ∃ c, env.cells.lookup x = some c ∧ h.IsCell c (some u))
structure Cx.Ok (X : Cx) : Prop where
  mod : Mod X.K X.mg X.base
  kind : X.env.scope.kind = .function
  glob : X.env.globals = mainGlobals
  blt : X.env.builtins = builtinsNs
  above : X.s₀.heap.objs.size ≤ X.env.locals
  inj : ∀ x y c, X.env.cells.lookup x = some c → X.env.cells.lookup y = some c → x = y
  has : ∀ x, (X.env.kindOf x = some .cell ∨ X.env.kindOf x = some .free) → ∃ c, X.env.cells.lookup x = some c
  cab : ∀ x c, X.fn x = true → X.env.cells.lookup x = some c → X.s₀.heap.objs.size ≤ c
  hd : X.calm = true → X.A.handled = none
  frames : X.A.frames = some X.stack
  stk : X.stack = X.outer ∨ (X.stack = X.env :: X.outer ∧ X.env.frame = some X.env.locals)
  exf : ∀ b ∈ X.ex, b ≠ X.env.locals ∧ ∀ x c, X.env.cells.lookup x = some c → c ≠ b
  bs : ∀ b o, X.base.get? b = some o → X.s₀.heap.get? b = some o ∧ X.H₀ b = none
  bsz : X.base.objs.size ≤ X.s₀.heap.objs.size
  noex : ∀ b o, X.base.get? b = some o → b ∉ X.ex
  exfs : ∀ b ∈ X.ex, b ∉ X.fs
  funs : X.s₀.heap.FunFrames X.base X.outer
  frf : ∀ b ∈ X.fs, X.H₀ b = none
structure Inv (X : Cx) (pins : List (Addr × Obj)) (σ : List (Option V)) (H : Hp) (s : Shared) : Prop where
  ok : X.Ok
  os : s.os = X.s₀.os
  bare : AllBare s.gens
  base : Un X.fs X.ex X.H₀ H X.s₀.heap s.heap
  loc : ∃ m, s.heap.Ns X.env.locals m ∧ ∀ (i : Nat) (x : Str) (v : V), X.N[i]? = some x → σ[i]? = some (some v) → Vis X.env.scope x → ∃ u, RelV v u ∧ Look X.env s.heap m x u
  cell : ∀ x c, X.env.cells.lookup x = some c → ∃ v, s.heap.IsCell c v
  free : H X.env.locals = none
  freeC : ∀ x c, X.env.cells.lookup x = some c → H c = none
  pin : ∀ p ∈ X.pn ++ pins, s.heap.get? p.1 = some p.2 ∧ H p.1 = none ∧ p.1 ≠ X.env.locals ∧ p.1 ∉ X.fs ∧ ∀ v, p.2.data ≠ .cell v
  hok : HOk X.prog X.w H s.heap
  len : σ.length = X.N.length
section
variable {X : Cx} {pins : List (Addr × Obj)} {σ : List (Option V)} {H H' : Hp} {s : Shared} {h' : Heap}
theorem Cx.Ok.nofr (ok : X.Ok) {b : Addr} {o : Obj} (e : X.base.get? b = some o) : b ∉ X.fs := fun hb => by
  have := (ok.funs.mem hb).1
  rw [e] at this; cases this
theorem Inv.bs (I : Inv X pins σ H s) : ∀ b o, X.base.get? b = some o → s.heap.get? b = some o ∧ H b = none := fun b o e =>
  ⟨I.base.keep b o (I.ok.bs b o e).1 (I.ok.bs b o e).2 (I.ok.nofr e) (I.ok.noex b o e), I.base.free b o (I.ok.bs b o e).1 (I.ok.bs b o e).2 (I.ok.noex b o e)⟩
theorem Inv.bk (I : Inv X pins σ H s) : ∀ b o, X.base.get? b = some o → s.heap.get? b = some o := fun b o e => (I.bs b o e).1
theorem Inv.mod (I : Inv X pins σ H s) : Mod X.K X.mg X.base := I.ok.mod
theorem Inv.kIn (I : Inv X pins σ H s) : X.K.In s.heap := I.ok.mod.kin.keeps I.bk
theorem Inv.lt (I : Inv X pins σ H s) : X.env.locals < s.heap.objs.size := let ⟨_, hn, _⟩ := I.loc; hn.lt
theorem Inv.sz (I : Inv X pins σ H s) : X.s₀.heap.objs.size ≤ s.heap.objs.size := Nat.le_trans I.ok.above (Nat.le_of_lt I.lt)
theorem Inv.nofs (I : Inv X pins σ H s) {a : Addr} (h : s.heap.objs.size ≤ a) : a ∉ X.fs := fun hb => by
  obtain ⟨_, o, ho, _⟩ := I.ok.funs.mem hb
  exact absurd (Nat.lt_of_lt_of_le (Heap.lt_size ho) (Nat.le_trans I.sz h)) (Nat.lt_irrefl _)
theorem Inv.cne (I : Inv X pins σ H s) : ∀ x c, X.env.cells.lookup x = some c → c ≠ X.env.locals := fun x c e z => by
  obtain ⟨v, o, ho, hd⟩ := I.cell x c e
  obtain ⟨m, ⟨o', es, ep, ho', hd', _⟩, _⟩ := I.loc
  rw [z, ho'] at ho; cases ho; rw [hd'] at hd; cases hd
theorem Inv.funs (I : Inv X pins σ H s) : s.heap.FunFrames X.base X.outer := by
  have all : ∀ (l : List Env), (∀ b ∈ frs l, b ∈ X.fs) → X.s₀.heap.FunFrames X.base l → s.heap.FunFrames X.base l := by
    intro l
    induction l with
    | nil => intro _ _; trivial
    | cons env r ih =>
      intro hs hl
      obtain ⟨hk, ⟨L, o, hf, hn, ho, hd⟩, hr⟩ := hl
      have hL : L ∈ X.fs := hs L (by unfold frs; rw [List.filterMap_cons, hf]; exact List.mem_cons_self)
      obtain ⟨sl, e⟩ := I.base.slot L o ho (I.ok.frf L hL) hL fun z => I.ok.exfs L z hL
      exact ⟨hk, ⟨L, _, hf, hn, e, hd⟩, ih (fun b hb => hs b (by unfold frs; rw [List.filterMap_cons, hf]; exact List.mem_cons_of_mem _ hb)) hr⟩
  exact all X.outer (fun _ hb => hb) I.ok.funs
theorem Inv.stack (I : Inv X pins σ H s) : s.heap.FunFrames X.base X.stack := by
  rcases I.ok.stk with e | ⟨e, hf⟩
  · rw [e]; exact I.funs
  · rw [e]
    obtain ⟨m, hn, _⟩ := I.loc
    refine .cons (by rw [I.ok.kind]; decide) hf hn ?_ I.funs
    exact Heap.get?_none_of_le (Nat.le_trans I.ok.bsz I.ok.above)
theorem Inv.stkSub (I : Inv X pins σ H s) : ∀ b ∈ frs X.stack, b ∈ X.env.locals :: X.fs := fun b hb => by
  rcases I.ok.stk with e | ⟨e, hf⟩
  · rw [e] at hb; exact List.mem_cons_of_mem _ hb
  · rw [e] at hb
    unfold frs at hb
    rw [List.filterMap_cons, hf] at hb
    exact hb
theorem Inv.stkFree (I : Inv X pins σ H s) : ∀ b ∈ frs X.stack, H b = none := fun b hb => by
  rcases List.mem_cons.mp (I.stkSub b hb) with e | hb
  · rw [e]; exact I.free
  · obtain ⟨_, o, ho, _⟩ := I.ok.funs.mem hb
    exact I.base.free b o ho (I.ok.frf b hb) fun z => I.ok.exfs b z hb
theorem Inv.step {g' : Array GenState} {t' : Nat} {d' : Drawn} {ch : List Addr} (I : Inv X pins σ H s)
    (hch : ∀ b ∈ ch, (b ∈ X.ex ∨ X.s₀.heap.objs.size ≤ b) ∧ b ≠ X.env.locals ∧ (∀ x c, X.env.cells.lookup x = some c → c ≠ b) ∧ ∀ p ∈ X.pn ++ pins, p.1 ≠ b)
    (keep : ∀ b o, b ≠ X.env.locals → b ∉ X.fs → b ∉ ch → s.heap.get? b = some o → H b = none → h'.get? b = some o)
    (slot : ∀ b o, b ≠ X.env.locals → b ∈ X.fs → b ∉ ch → s.heap.get? b = some o → H b = none → ∃ sl, h'.get? b = some { o with slots := sl }) (free : ∀ b o, b ∉ ch → s.heap.get? b = some o → H b = none → H' b = none)
    (there : ∀ b o, b ∉ ch → s.heap.get? b = some o → ∃ o', h'.get? b = some o')
    (tups : ∀ b xs, H b = some (.tup xs) → H' b = some (.tup xs)) (frzs : ∀ b o u, H b = some (.frz o u) → H' b = some (.frz o u)) (tbls : ∀ b ps, H b = some (.tbl ps) → ∃ more, H' b = some (.tbl (ps ++ more)))
    (ns : ∀ m, s.heap.Ns X.env.locals m → h'.Ns X.env.locals m) (hok : HOk X.prog X.w H' h') (hg : AllBare g') :
    Inv X pins σ H' { s with heap := h', gens := g', drawn := d', toks := t' } := by
  have neL : ∀ b o, X.s₀.heap.get? b = some o → b ≠ X.env.locals := fun b o e => Nat.ne_of_lt (Nat.lt_of_lt_of_le (Heap.lt_size e) I.ok.above)
  have neC : ∀ b o, X.s₀.heap.get? b = some o → b ∉ X.ex → b ∉ ch := fun b o e hx hb => by
    rcases (hch b hb).1 with z | z
    · exact hx z
    · exact absurd (Nat.lt_of_lt_of_le (Heap.lt_size e) z) (Nat.lt_irrefl _)
  have cellK : ∀ x c, X.env.cells.lookup x = some c → ∀ v, s.heap.IsCell c v → h'.IsCell c v := fun x c e v ⟨o, ho, hd⟩ => by
    have nch : c ∉ ch := fun z => (hch c z).2.2.1 x c e rfl
    by_cases hc : c ∈ X.fs
    · obtain ⟨sl, q⟩ := slot c o (I.cne x c e) hc nch ho (I.freeC x c e)
      exact ⟨_, q, hd⟩
    · exact ⟨o, keep c o (I.cne x c e) hc nch ho (I.freeC x c e), hd⟩
  refine ⟨I.ok, I.os, hg, ⟨fun b o e n hb hx => ?_, fun b o e n hb hx => ?_, fun b o e n hx => ?_, fun b o e hx => ?_, fun b xs e => tups b xs (I.base.tups b xs e), fun b o xs e => frzs b o xs (I.base.frzs b o xs e), fun b ps e => ?_⟩, ?_, fun x c e => ?_, ?_, fun x c e => ?_, fun p hp => ?_, hok, I.len⟩
  · exact keep b o (neL b o e) hb (neC b o e hx) (I.base.keep b o e n hb hx) (I.base.free b o e n hx)
  · obtain ⟨sl, e1⟩ := I.base.slot b o e n hb hx
    obtain ⟨sl', e2⟩ := slot b _ (neL b o e) hb (neC b o e hx) e1 (I.base.free b o e n hx)
    exact ⟨sl', e2⟩
  · obtain ⟨o', e1⟩ := I.base.there b o e hx
    exact free b o' (neC b o e hx) e1 (I.base.free b o e n hx)
  · obtain ⟨o', e1⟩ := I.base.there b o e hx
    exact there b o' (neC b o e hx) e1
  · obtain ⟨m1, e1⟩ := I.base.tbls b ps e
    obtain ⟨m2, e2⟩ := tbls b _ e1
    exact ⟨m1 ++ m2, by rw [e2, Array.append_assoc]⟩
  · obtain ⟨m, hn, hl⟩ := I.loc
    refine ⟨m, ns m hn, fun i x v e1 e2 e3 => ?_⟩
    obtain ⟨u, r, l⟩ := hl i x v e1 e2 e3
    refine ⟨u, r, ?_⟩
    rcases l with l | ⟨k, c, e, z⟩
    · exact .inl l
    · exact .inr ⟨k, c, e, cellK x c e _ z⟩
  · obtain ⟨v, z⟩ := I.cell x c e
    exact ⟨v, cellK x c e v z⟩
  · obtain ⟨m, ⟨o, _, _, ho, _⟩, _⟩ := I.loc
    exact free _ o (fun z => (hch _ z).2.1 rfl) ho I.free
  · obtain ⟨v, o, ho, hd⟩ := I.cell x c e
    exact free c o (fun z => (hch c z).2.2.1 x c e rfl) ho (I.freeC x c e)
  · obtain ⟨e, n, ne, nf, d⟩ := I.pin p hp
    have nch : p.1 ∉ ch := fun z => (hch p.1 z).2.2.2 p hp rfl
    exact ⟨keep p.1 p.2 ne nf nch e n, free p.1 p.2 nch e n, ne, nf, d⟩
theorem Inv.un {t' : Nat} (I : Inv X pins σ H s) (u : Un X.fs [] H H' s.heap h') (hok : HOk X.prog X.w H' h') : Inv X pins σ H' { s with heap := h', toks := t' } := by
  obtain ⟨m, ⟨o, es, ep, ho, r⟩, _⟩ := id I.loc
  obtain ⟨sl, hL⟩ := u.any ho I.free (by simp)
  exact I.step (g' := s.gens) (d' := s.drawn) (ch := []) (fun _ z => nomatch z) (fun b o _ hb _ e n => u.keep b o e n hb (by simp)) (fun b o _ hb _ e n => u.slot b o e n hb (by simp)) (fun b o _ e n => u.free b o e n (by simp)) (fun b o _ e => u.there b o e (by simp)) u.tups u.frzs u.tbls (fun m' hm => by
    obtain ⟨o', es', ep', ho', r'⟩ := hm
    rw [ho] at ho'; cases ho'
    exact ⟨_, es', ep', hL, r'⟩) hok I.bare
theorem Inv.call {g' : Array GenState} {t' : Nat} {d' : Drawn} {ch : List Addr} (I : Inv X pins σ H s) (u : Un (frs X.stack) ch H H' s.heap h') (hok : HOk X.prog X.w H' h') (hg : AllBare g')
    (hch : ∀ b ∈ ch, (b ∈ X.ex ∨ X.s₀.heap.objs.size ≤ b) ∧ b ≠ X.env.locals ∧ (∀ x c, X.env.cells.lookup x = some c → c ≠ b) ∧ ∀ p ∈ X.pn ++ pins, p.1 ≠ b) :
    Inv X pins σ H' { s with heap := h', gens := g', drawn := d', toks := t' } := by
  obtain ⟨m, ⟨o, es, ep, ho, r⟩, _⟩ := id I.loc
  obtain ⟨sl, hL⟩ := u.any ho I.free fun z => (hch _ z).2.1 rfl
  exact I.step (ch := ch) hch (fun b o hL hb hc e n => u.keep b o e n (fun z => (List.mem_cons.mp (I.stkSub b z)).elim hL hb) hc) (fun b o _ _ hc e n => u.any e n hc) (fun b o hc e n => u.free b o e n hc) (fun b o hc e => u.there b o e hc) u.tups u.frzs u.tbls (fun m' hm => by
    obtain ⟨o', es', ep', ho', r'⟩ := hm
    rw [ho] at ho'; cases ho'
    exact ⟨_, es', ep', hL, r'⟩) hok hg
theorem Inv.turned {t' : Nat} {it : Addr} (I : Inv X pins σ H s) (k : ∀ b o, b ≠ it → s.heap.get? b = some o → h'.get? b = some o) (hn : H it = none) (hL : it ≠ X.env.locals)
    (h1 : it ∈ X.ex ∨ X.s₀.heap.objs.size ≤ it) (h2 : ∀ x c, X.env.cells.lookup x = some c → c ≠ it) (h3 : ∀ p ∈ X.pn ++ pins, p.1 ≠ it) : Inv X pins σ H { s with heap := h', toks := t' } := by
  have nit : ∀ b u, H b = some u → b ≠ it := fun b u e z => by rw [z, hn] at e; cases e
  refine I.step (g' := s.gens) (d' := s.drawn) (ch := [it]) (fun b hb => ?_) (fun b o _ _ hc e _ => k b o (fun z => hc (by simp [z])) e) (fun b o _ _ hc e _ => ⟨o.slots, k b o (fun z => hc (by simp [z])) e⟩) (fun _ _ _ _ n => n)
    (fun b o hc e => ⟨o, k b o (fun z => hc (by simp [z])) e⟩) (fun _ _ e => e) (fun _ _ _ e => e) (fun b ps e => ⟨#[], by rw [e]; simp⟩) (fun m hm => ?_) (fun b u e => ?_) I.bare
  · have e : b = it := by simpa using hb
    subst e
    exact ⟨h1, hL, h2, h3⟩
  · obtain ⟨o, es, ep, ho, r⟩ := hm
    exact ⟨o, es, ep, k _ o (Ne.symm hL) ho, r⟩
  · refine (I.hok b u e).stay (fun c v hc q => k c v ?_ q) (fun _ q => q) fun _ _ q => q
    rcases hc with z | z
    · rw [z]; exact nit b u e
    · exact nit c _ z
theorem Inv.tok (I : Inv X pins σ H s) (t : Nat) : Inv X pins σ H { s with toks := t } := I.un (h' := s.heap) (t' := t) Un.refl I.hok
theorem Inv.kept {t' : Nat} (I : Inv X pins σ H s) (k : ∀ b u, s.heap.get? b = some u → h'.get? b = some u) : Inv X pins σ H { s with heap := h', toks := t' } := I.un (Un.kept k) (I.hok.kept k)
theorem Inv.laid {a : Addr} {o : HO} {t' : Nat} (I : Inv X pins σ H s) (k : ∀ b u, s.heap.get? b = some u → h'.get? b = some u) (hp : s.heap.objs.size ≤ a) (new : ObjOk X.prog X.w (upd H a o) h' a o) :
    Inv X pins σ (upd H a o) { s with heap := h', toks := t' } := I.un (Un.laid k hp (I.hok.fresh hp)) (I.hok.laid k hp new)
theorem Inv.write {x e : Addr} {o : HO} {t' : Nat} (I : Inv X pins σ H s) (mu : Mut (H x)) (he : e = x ∨ H e = some (.own x)) (k : ∀ b u, b ≠ e → s.heap.get? b = some u → h'.get? b = some u) (heo : ∃ u, h'.get? e = some u)
    (new : ObjOk X.prog X.w (upd H x o) h' x o) : Inv X pins σ (upd H x o) { s with heap := h', toks := t' } := I.un (Un.write mu he k heo) (I.hok.write mu he k heo new)
theorem Inv.pins_of {pins' : List (Addr × Obj)} (I : Inv X pins σ H s) (h : ∀ p ∈ pins', s.heap.get? p.1 = some p.2 ∧ H p.1 = none ∧ p.1 ≠ X.env.locals ∧ p.1 ∉ X.fs ∧ ∀ v, p.2.data ≠ .cell v) : Inv X pins' σ H s :=
  ⟨I.ok, I.os, I.bare, I.base, I.loc, I.cell, I.free, I.freeC, fun p hp => (List.mem_append.mp hp).elim (fun z => I.pin p (List.mem_append_left _ z)) (h p), I.hok, I.len⟩
theorem nodup_ix {N : List Str} (hN : N.Nodup) {i j : Nat} {x : Str} (a : N[i]? = some x) (b : N[j]? = some x) : i = j := by
  obtain ⟨h1, e1⟩ := List.getElem?_eq_some_iff.mp a
  obtain ⟨h2, e2⟩ := List.getElem?_eq_some_iff.mp b
  exact (List.getElem_inj hN).mp (e1.trans e2.symm)
theorem store_ok2 {M : Model} {A : Around} {E : Value → Shared → Prop} {i : Nat} {x : Str} {v : V} {u : Value} {Q : Unit → Shared → Prop} (I : Inv X pins σ H s) (hN : X.N.Nodup) (hi : X.N[i]? = some x) (hx : Loc X.env.scope x) (r : RelV v u)
    (h : ∀ s', Inv X pins (σ.set i (some v)) H s' → (∃ a, Heap.SameBut a s.heap s'.heap ∧ (a = X.env.locals ∨ X.env.cells.lookup x = some a)) → Q () s') (hf : X.fn x = true ∨ X.env.scope.names.lookup x = some .local := by first | exact .inl rfl | exact .inr rfl | assumption) : wpAny M A (storeName X.env x u) Q E s := by
  obtain ⟨m, hn, hl⟩ := id I.loc
  have hcls : (X.env.scope.kind == .class || (X.env.scope.kind == .module && X.env.locals != X.env.globals)) = false := by rw [I.ok.kind]; rfl
  have hiσ : i < σ.length := by rw [I.len]; exact (List.getElem?_eq_some_iff.mp hi).1
  have cne := I.cne
  have tracked : ∀ {a : Addr} {h' : Heap}, (∃ o, s.heap.get? a = some o ∧ H a = none) → Heap.SameBut a s.heap h' → HOk X.prog X.w H h' := fun {a h'} ha hs b ob e => by
    obtain ⟨_, _, hfree⟩ := ha
    refine (I.hok b ob e).stay (fun c w' hc q => (hs.2 c ?_).trans q) (fun _ q => q) fun _ _ q => q
    rintro rfl
    rcases hc with rfl | hc
    · rw [hfree] at e; cases e
    · rw [hfree] at hc; cases hc
  rcases hx with hk | hk
  · refine wpAny_storeName_local hk hn (fun h' hn' hs => ?_) hcls
    obtain ⟨oL, _, _, hoL, _⟩ := id hn
    refine h _ ⟨I.ok, I.os, I.bare, ⟨fun b o e n hb hx => ?_, fun b o e n hb hx => ?_, I.base.free, fun b o e hx => ?_, I.base.tups, I.base.frzs, I.base.tbls⟩, ⟨_, hn', fun j y v' e1 e2 e3 => ?_⟩, fun y c e => ?_, I.free, I.freeC, fun p hp => ?_, tracked ⟨oL, hoL, I.free⟩ hs, by simpa using I.len⟩ ⟨_, hs, .inl rfl⟩
    · exact (hs.2 b (Nat.ne_of_lt (Nat.lt_of_lt_of_le (Heap.lt_size e) I.ok.above))).trans (I.base.keep b o e n hb hx)
    · obtain ⟨sl, e1⟩ := I.base.slot b o e n hb hx
      exact ⟨sl, (hs.2 b (Nat.ne_of_lt (Nat.lt_of_lt_of_le (Heap.lt_size e) I.ok.above))).trans e1⟩
    · obtain ⟨o', e1⟩ := I.base.there b o e hx
      exact ⟨o', (hs.2 b (Nat.ne_of_lt (Nat.lt_of_lt_of_le (Heap.lt_size e) I.ok.above))).trans e1⟩
    · by_cases hj : j = i
      · subst hj
        rw [hi] at e1; cases e1
        rw [List.getElem?_set_self hiσ] at e2
        cases e2
        exact ⟨u, r, .inl ⟨hk, by simp⟩⟩
      · rw [List.getElem?_set_ne (Ne.symm hj)] at e2
        obtain ⟨u', r', q⟩ := hl j y v' e1 e2 e3
        refine ⟨u', r', ?_⟩
        rcases q with ⟨k, e⟩ | ⟨k, c, e, z⟩
        · refine .inl ⟨k, ?_⟩
          have : y ≠ x := fun e => hj (nodup_ix hN e1 (e ▸ hi))
          simp [this, e]
        · exact .inr ⟨k, c, e, z.sameBut hs (cne y c e)⟩
    · obtain ⟨w', z⟩ := I.cell y c e
      exact ⟨w', z.sameBut hs (cne y c e)⟩
    · obtain ⟨e, n, ne, nf, d⟩ := I.pin p hp
      exact ⟨(hs.2 p.1 ne).trans e, n, ne, nf, d⟩
  · have hfn : X.fn x = true := by
      rcases hf with z | z
      · exact z
      · rw [z] at hk; cases hk
    obtain ⟨c, hc⟩ := I.ok.has x (.inl hk)
    obtain ⟨w', z⟩ := I.cell x c hc
    refine wpAny_storeName_cell I.ok.kind hk hc z (fun h' hc' hs => ?_)
    obtain ⟨oc, hoc, hocd⟩ := id z
    refine h { s with heap := h' } ⟨I.ok, I.os, I.bare, ⟨fun b o e n hb hx => ?_, fun b o e n hb hx => ?_, I.base.free, fun b o e hx => ?_, I.base.tups, I.base.frzs, I.base.tbls⟩, ⟨m, hn.sameBut hs (Ne.symm (cne x c hc)), fun j y v' e1 e2 e3 => ?_⟩, fun y c' e => ?_, I.free, I.freeC, fun p hp => ?_, tracked ⟨oc, hoc, I.freeC x c hc⟩ hs, by simpa using I.len⟩ ⟨c, hs, .inr hc⟩
    · exact (hs.2 b (Nat.ne_of_lt (Nat.lt_of_lt_of_le (Heap.lt_size e) (I.ok.cab x c hfn hc)))).trans (I.base.keep b o e n hb hx)
    · obtain ⟨sl, e1⟩ := I.base.slot b o e n hb hx
      exact ⟨sl, (hs.2 b (Nat.ne_of_lt (Nat.lt_of_lt_of_le (Heap.lt_size e) (I.ok.cab x c hfn hc)))).trans e1⟩
    · obtain ⟨o', e1⟩ := I.base.there b o e hx
      exact ⟨o', (hs.2 b (Nat.ne_of_lt (Nat.lt_of_lt_of_le (Heap.lt_size e) (I.ok.cab x c hfn hc)))).trans e1⟩
    · by_cases hj : j = i
      · subst hj
        rw [hi] at e1; cases e1
        rw [List.getElem?_set_self hiσ] at e2
        cases e2
        exact ⟨u, r, .inr ⟨.inl hk, c, hc, hc'⟩⟩
      · rw [List.getElem?_set_ne (Ne.symm hj)] at e2
        obtain ⟨u', r', q⟩ := hl j y v' e1 e2 e3
        refine ⟨u', r', ?_⟩
        rcases q with q | ⟨k, c', e, z'⟩
        · exact .inl q
        · refine .inr ⟨k, c', e, z'.sameBut hs ?_⟩
          rintro rfl
          exact hj (nodup_ix hN e1 (I.ok.inj _ _ _ e hc ▸ hi))
    · by_cases hcc : c' = c
      · subst hcc; exact ⟨_, hc'⟩
      · obtain ⟨w2, z2⟩ := I.cell y c' e
        exact ⟨w2, z2.sameBut hs hcc⟩
    · obtain ⟨e, n, ne, nf, d⟩ := I.pin p hp
      refine ⟨(hs.2 p.1 ?_).trans e, n, ne, nf, d⟩
      intro q
      rw [q, hoc] at e
      have q' : oc = p.2 := Option.some.inj e
      exact d w' (by rw [← q']; exact hocd)
theorem store_ok {M : Model} {A : Around} {E : Value → Shared → Prop} {i : Nat} {x : Str} {v : V} {u : Value} {Q : Unit → Shared → Prop} (I : Inv X pins σ H s) (hN : X.N.Nodup) (hi : X.N[i]? = some x) (hx : Loc X.env.scope x) (r : RelV v u)
    (h : ∀ s', Inv X pins (σ.set i (some v)) H s' → Q () s') (hf : X.fn x = true ∨ X.env.scope.names.lookup x = some .local := by first | exact .inl rfl | exact .inr rfl | assumption) : wpAny M A (storeName X.env x u) Q E s :=
  store_ok2 I hN hi hx r (fun s' I' _ => h s' I') hf
theorem Inv.call' {s' : Shared} {ch : List Addr} (I : Inv X pins σ H s) (ho : s'.os = s.os) (u : Un (frs X.stack) ch H H' s.heap s'.heap) (hok : HOk X.prog X.w H' s'.heap) (hg : AllBare s'.gens)
    (hch : ∀ b ∈ ch, (b ∈ X.ex ∨ X.s₀.heap.objs.size ≤ b) ∧ b ≠ X.env.locals ∧ (∀ x c, X.env.cells.lookup x = some c → c ≠ b) ∧ ∀ p ∈ X.pn ++ pins, p.1 ≠ b) : Inv X pins σ H' s' := by
  obtain ⟨h', g', d', t', o'⟩ := s'
  have e : o' = s.os := ho
  subst e
  exact I.call (g' := g') (t' := t') (d' := d') u hok hg hch
end
noncomputable abbrev XK := Value → Option Addr → Hp → Prop
noncomputable abbrev St := List (Option V)
noncomputable abbrev VK := V → Hp → Prop
noncomputable abbrev TE := St → Hp → VK → Prop
noncomputable abbrev TT := St → Hp → (Bool → Hp → Prop) → Prop
noncomputable abbrev TA := St → Hp → (List V → Hp → Prop) → Prop
structure Ends where
  nx : St → Hp → Prop
  rt : VK
  bk : St → Hp → Prop := fun _ _ => False
  ct : St → Hp → Prop := fun _ _ => False
noncomputable abbrev TS := Ends → St → Hp → Prop
noncomputable def EP (X : Cx) (pins : List (Addr × Obj)) (σ : St) (Q : VK) (u : Value) (s' : Shared) : Prop := ∃ v H', Inv X pins σ H' s' ∧ RelV v u ∧ Q v H'
noncomputable def TP (X : Cx) (pins : List (Addr × Obj)) (σ : St) (Q : Bool → Hp → Prop) (b : Bool) (s' : Shared) : Prop := ∃ H', Inv X pins σ H' s' ∧ Q b H'
noncomputable def AP (X : Cx) (pins : List (Addr × Obj)) (σ : St) (Q : List V → Hp → Prop) (us : List Value) (s' : Shared) : Prop := ∃ vs H', Inv X pins σ H' s' ∧ Vals vs us ∧ Q vs H'
noncomputable def SP (X : Cx) (pins : List (Addr × Obj)) (D : Ends) (f : Flow) (s' : Shared) : Prop :=
  match f with
  | .next => ∃ σ' H', Inv X pins σ' H' s' ∧ D.nx σ' H'
  | .brk => ∃ σ' H', Inv X pins σ' H' s' ∧ D.bk σ' H'
  | .cont => ∃ σ' H', Inv X pins σ' H' s' ∧ D.ct σ' H'
  | .ret u => ∃ v σ' H', Inv X pins σ' H' s' ∧ RelV v u ∧ D.rt v H'
noncomputable def PE (X : Cx) (e : Expr) (t : TE) : Prop :=
  ∀ (pins : List (Addr × Obj)) (s : Shared) (σ : St) (H : Hp) (Q : VK), Inv X pins σ H s → t σ H Q → wpAny (model X.prog X.w) X.A (eval e X.env) (EP X pins σ Q) X.xe s
noncomputable def PT (X : Cx) (e : Expr) (t : TT) : Prop :=
  ∀ (pins : List (Addr × Obj)) (s : Shared) (σ : St) (H : Hp) (Q : Bool → Hp → Prop), Inv X pins σ H s → t σ H Q → wpAny (model X.prog X.w) X.A (isTrue e X.env (eval e X.env)) (TP X pins σ Q) X.xe s
noncomputable def PW (X : Cx) (e : Expr) (t : TT) : Prop :=
  ∀ (whole : Sem Value) (pins : List (Addr × Obj)) (s : Shared) (σ : St) (H : Hp) (Q : Bool → Hp → Prop), Inv X pins σ H s → t σ H Q → wpAny (model X.prog X.w) X.A (isTrue e X.env whole) (TP X pins σ Q) X.xe s
theorem PW.pt {X : Cx} {e : Expr} {t : TT} (h : PW X e t) : PT X e t := h _
noncomputable def PA (X : Cx) (es : List Expr) (t : TA) : Prop :=
  ∀ (pos : Pos) (pins : List (Addr × Obj)) (s : Shared) (σ : St) (H : Hp) (Q : List V → Hp → Prop), Inv X pins σ H s → t σ H Q → wpAny (model X.prog X.w) X.A (spliced (backTo pos (starEach es X.env))) (AP X pins σ Q) X.xe s
noncomputable def PS (X : Cx) (st : Stmt) (t : TS) : Prop :=
  ∀ (pins : List (Addr × Obj)) (s : Shared) (σ : St) (H : Hp) (D : Ends), Inv X pins σ H s → t D σ H → wpAny (model X.prog X.w) X.A (exec st X.env) (SP X pins D) X.xe s
noncomputable def PSs (X : Cx) (st : List Stmt) (t : TS) : Prop :=
  ∀ (pins : List (Addr × Obj)) (s : Shared) (σ : St) (H : Hp) (D : Ends), Inv X pins σ H s → t D σ H → wpAny (model X.prog X.w) X.A (execs st X.env) (SP X pins D) X.xe s
theorem thn {α : Type} {t : Sem α} {Q Q' : α → Shared → Prop} {M : Model} {A : Around} {E : Value → Shared → Prop} {s : Shared} (h : wpAny M A t Q E s) (hQ : ∀ a s, Q a s → Q' a s) : wpAny M A t Q' E s := wpAny_mono h hQ fun _ _ x => x
end L2
namespace L2
open PySem PySem.Spec PyProof.Rows
section
variable {X : Cx}
noncomputable def tVar (i : Nat) : TE := fun σ H Q => ∃ v, σ[i]? = some (some v) ∧ Q v H
noncomputable def tC (v : V) : TE := fun _ H Q => Q v H
theorem pe_var {i : Nat} {x : Str} {pos : Pos} (hN : X.N[i]? = some x) (hv : Vis X.env.scope x) (hd : (x == ("__debug__" : Str)) = false := by decide) (hcd : (x == ("__classdict__" : Str)) = false := by decide) : PE X (.Name x pos) (tVar i) := by
  intro pins s σ H Q I h
  obtain ⟨v, e, h⟩ := h
  obtain ⟨m, hn, hl⟩ := I.loc
  obtain ⟨u, r, l⟩ := hl i x v hN e hv
  have fin : EP X pins σ Q u s := ⟨v, H, I, r, h⟩
  rcases l with ⟨hk, hm⟩ | ⟨hk, c, hc, hcell⟩
  · exact wpAny_Name (wpAny_loadName_local I.ok.kind hk hn hm fin) hd
  · rcases hk with hk | hk
    · exact wpAny_Name (wpAny_loadName_cell I.ok.kind hk hc hcell fin) hd
    · exact wpAny_Name (wpAny_loadName_free I.ok.kind hk hc hcell fin hcd) hd
theorem pe_int {i j pos} : PE X (.Constant (.int i) j pos) (tC (.int i)) := fun _ _ _ H _ I h => wpAny_Constant_int ⟨.int i, H, I.tok _, ⟨_, rfl⟩, h⟩
theorem pe_bl {b j pos} : PE X (.Constant (.bool b) j pos) (tC (.bl b)) := fun _ _ _ H _ I h => Constant_bool ⟨.bl b, H, I, rfl, h⟩
theorem pe_non {j pos} : PE X (.Constant .none j pos) (tC .non) := fun _ _ _ H _ I h => Constant_none ⟨.non, H, I, rfl, h⟩
theorem pe_str {x j pos} : PE X (.Constant (.str x) j pos) (tC (.str x)) := fun _ _ _ H _ I h => Calls.Constant_str ⟨.str x, H, I.tok _, ⟨_, rfl⟩, h⟩
noncomputable def Gl (X : Cx) (x : Str) : Prop := X.env.kindOf x = some .globalImplicit
theorem ld_glob {E : Value → Shared → Prop} {pins : List (Addr × Obj)} {s : Shared} {σ : St} {H : Hp} {x : Str} {u : Value} {pos : Pos} {Q : Value → Shared → Prop} (I : Inv X pins σ H s) (hg : Gl X x) (hm : X.mg x = some u) (h : Q u s)
    (hd : (x == ("__debug__" : Str)) = false := by decide) : wpAny (model X.prog X.w) X.A (eval (.Name x pos) X.env) Q E s :=
  Calls.Name_function_global I.ok.kind hg (Calls.loadGlobal_global (by rw [I.ok.glob]; exact I.mod.glob.keeps I.bk) hm h) hd
theorem ld_blt {E : Value → Shared → Prop} {pins : List (Addr × Obj)} {s : Shared} {σ : St} {H : Hp} {x : Str} {u : Value} {pos : Pos} {Q : Value → Shared → Prop} (I : Inv X pins σ H s) (hg : Gl X x) (hm : X.mg x = none) (hv : bootBuiltins x = some u) (h : Q u s)
    (hn : x ≠ "__name__" := by decide) (hd : (x == ("__debug__" : Str)) = false := by decide) : wpAny (model X.prog X.w) X.A (eval (.Name x pos) X.env) Q E s := by
  obtain ⟨mb, h1, h2⟩ := I.mod.blt
  exact Calls.Name_function_global I.ok.kind hg (Calls.loadGlobal_builtin (by rw [I.ok.glob]; exact I.mod.glob.keeps I.bk) hm (by rw [I.ok.blt]; exact h1.keeps I.bk) ((h2 x hn).trans hv) h) hd
theorem pe_glob {x : Str} {v : V} {u : Value} {pos : Pos} (hg : Gl X x) (hm : X.mg x = some u) (r : RelV v u) (hd : (x == ("__debug__" : Str)) = false := by decide) : PE X (.Name x pos) (tC v) :=
  fun _ _ _ H _ I h => ld_glob I hg hm ⟨v, H, I, r, h⟩ hd
theorem pe_bltn {x : Str} {v : V} {u : Value} {pos : Pos} (hg : Gl X x) (hm : X.mg x = none) (hv : bootBuiltins x = some u) (r : RelV v u) (hn : x ≠ "__name__" := by decide) (hd : (x == ("__debug__" : Str)) = false := by decide) : PE X (.Name x pos) (tC v) :=
  fun _ _ _ H _ I h => ld_blt I hg hm hv ⟨v, H, I, r, h⟩ hn hd
variable {a b : Expr} {ta tb : TE} {pos : Pos}
noncomputable def tB (t : TE) : TT := fun σ H Q => t σ H fun x H1 => ∃ c, x = .bl c ∧ Q c H1
variable {tA tB' : TT} {rest : List Expr}
noncomputable def tAnd (t u : TT) : TT := fun σ H Q => t σ H fun c H1 => if c = true then u σ H1 Q else Q false H1
noncomputable def tNot (t : TT) : TT := fun σ H Q => t σ H fun c H1 => Q (!c) H1
theorem pw_and1 (ha : PT X a tA) : PW X (.BoolOp .And [a] pos) tA := by
  intro wh pins s σ H Q I h
  refine isTrue_and (thn (ha pins s σ H Q I h) fun c s1 e => ?_)
  cases c with
  | true => exact isTrue_and_nil e
  | false => exact e
theorem pw_and (ha : PT X a tA) (hb : PW X (.BoolOp .And (b :: rest) pos) tB') : PW X (.BoolOp .And (a :: b :: rest) pos) (tAnd tA tB') := by
  intro wh pins s σ H Q I h
  refine isTrue_and (thn (ha pins s σ H _ I h) fun c s1 ⟨H1, I1, q1⟩ => ?_)
  cases c with
  | true => exact hb wh pins s1 σ H1 Q I1 q1
  | false => exact ⟨H1, I1, q1⟩
theorem pt_not (ha : PT X a tA) : PT X (.UnaryOp .Not a pos) (tNot tA) := by
  intro pins s σ H Q I h
  exact isTrue_not (ha pins s σ H (fun c H1 => Q (!c) H1) I h)
noncomputable def tAndV (ta tb : TE) : TE := fun σ H Q => ta σ H fun x H1 => ∃ c, x = .bl c ∧ if c = true then tb σ H1 Q else Q (.bl false) H1
theorem pe_one {op} {t : TE} (h : PE X a t) : PE X (.BoolOp op [a] pos) t := fun pins s σ H Q I hw => BoolOp_one (h pins s σ H Q I hw)
theorem pe_and (ha : PE X a ta) (hb : PE X (.BoolOp .And (b :: rest) pos) tb) : PE X (.BoolOp .And (a :: b :: rest) pos) (tAndV ta tb) := by
  intro pins s σ H Q I h
  refine BoolOp_and (thn (ha pins s σ H _ I h) fun v s1 ⟨x, H1, I1, r1, q1⟩ => ?_)
  obtain ⟨c, rfl, q1⟩ := q1
  cases r1
  refine wpAny_truthy_bool ?_
  cases c with
  | true => exact hb pins s1 σ H1 Q I1 q1
  | false => exact ⟨.bl false, H1, I1, rfl, q1⟩
noncomputable def tIf (t : TT) (ta tb : TE) : TE := fun σ H Q => t σ H fun c H1 => if c = true then ta σ H1 Q else tb σ H1 Q
theorem pe_ifExp {c : Expr} (hc : PT X c tA) (ha : PE X a ta) (hb : PE X b tb) : PE X (.IfExp c a b pos) (tIf tA ta tb) := by
  intro pins s σ H Q I h
  refine wpAny_IfExp (thn (hc pins s σ H _ I h) fun d s1 ⟨H1, I1, q1⟩ => ?_)
  cases d with
  | true => exact ha pins s1 σ H1 Q I1 q1
  | false => exact hb pins s1 σ H1 Q I1 q1
end
end L2
namespace L2
open PySem PySem.Spec PyProof.Rows
noncomputable def SqL (K : PySem.W.Frag) (H : Hp) (a : Addr) (xs : List V) : Prop :=
  Rd H a (.lst xs) ∨
    ∃ (o : Obj) (its : Array Value) (n : Nat), K.lookup a = some o ∧ o.cls = .type "list" ∧ o.dict = none ∧ o.data = .seq its n ∧ its.size ≤ sizeLine ∧ Vals xs its.toList
noncomputable def SqT (K : PySem.W.Frag) (H : Hp) (a : Addr) (xs : List V) : Prop :=
  Rd H a (.tup xs) ∨
    ∃ (o : Obj) (its : Array Value) (n : Nat), K.lookup a = some o ∧ o.cls = .type "tuple" ∧ o.data = .seq its n ∧ its.size ≤ sizeLine ∧ Vals xs its.toList
noncomputable def absV : Value → Option V
  | .none => some .non
  | .bool b => some (.bl b)
  | .int i _ => some (.int i)
  | .str x _ => some (.str x)
  | .bytes b _ => some (.byt b)
  | .float b _ => some (.flt b)
  | .ref a => some (.ref a)
  | .type n => some (.ty n)
  | _ => none
theorem RelV.abs {x : V} {u : Value} (r : RelV x u) : absV u = some x := by
  cases x with
  | non => cases r; rfl
  | bl _ => cases r; rfl
  | int _ => obtain ⟨t, rfl⟩ := r; rfl
  | str _ => obtain ⟨t, rfl⟩ := r; rfl
  | byt _ => obtain ⟨t, rfl⟩ := r; rfl
  | flt _ => obtain ⟨t, rfl⟩ := r; rfl
  | ref _ => cases r; rfl
  | ty _ => cases r; rfl
theorem RelV.inj {x y : V} {u : Value} (r : RelV x u) (q : RelV y u) : x = y := Option.some.inj (r.abs.symm.trans q.abs)
theorem Vals.inj : ∀ {xs ys : List V} {us : List Value}, Vals xs us → Vals ys us → xs = ys
  | _, _, _, .nil, .nil => rfl
  | _, _, _, .cons r t, .cons r' t' => by rw [r.inj r', Vals.inj t t']
section
variable {X : Cx} {pins : List (Addr × Obj)} {σ : St} {H : Hp} {s : Shared} {a : Addr} {xs ys : List V}
theorem SqL.of {K : PySem.W.Frag} (h : H a = some (.lst xs)) : SqL K H a xs := .inl (.inl h)
theorem Inv.list (I : Inv X pins σ H s) (h : SqL X.K H a xs) : ∃ its : List Value, Vals xs its ∧ PlainL s.heap a its.toArray ∧ xs.length ≤ sizeLine := by
  rcases h with h | ⟨o, its, n, hk, hc, hd, hs, hz, r⟩
  · obtain ⟨z, its, n, r, e⟩ := h.ok I.hok
    exact ⟨its, r, ⟨_, n, e, rfl, rfl, rfl⟩, z⟩
  · refine ⟨its.toList, r, ⟨o, n, I.kIn a o hk, hc, hd, by simpa using hs⟩, ?_⟩
    have e := r.length
    simp only [Array.length_toList] at e
    omega
theorem Inv.tuple (I : Inv X pins σ H s) (h : SqT X.K H a xs) : ∃ its : List Value, Vals xs its ∧ IsTup s.heap a its.toArray ∧ xs.length ≤ sizeLine := by
  rcases h with h | ⟨o, its, n, hk, hc, hs, hz, r⟩
  · obtain ⟨z, its, r, p⟩ := h.ok I.hok
    exact ⟨its, r, p, z⟩
  · refine ⟨its.toList, r, ⟨o, I.kIn a o hk, hc, n, by simpa using hs⟩, ?_⟩
    have e := r.length
    simp only [Array.length_toList] at e
    omega
theorem Inv.list_inj (I : Inv X pins σ H s) (h : SqL X.K H a xs) (h' : SqL X.K H a ys) : xs = ys := by
  obtain ⟨its, r, ⟨o, n, e, _, _, d⟩, _⟩ := I.list h
  obtain ⟨its', r', ⟨o', n', e', _, _, d'⟩, _⟩ := I.list h'
  rw [e] at e'; cases e'
  rw [d] at d'
  injection d' with d1 _
  have : its = its' := by simpa using congrArg Array.toList d1
  subst this
  exact r.inj r'
theorem Inv.tuple_inj (I : Inv X pins σ H s) (h : SqT X.K H a xs) (h' : SqT X.K H a ys) : xs = ys := by
  obtain ⟨its, r, ⟨o, e, _, n, d⟩, _⟩ := I.tuple h
  obtain ⟨its', r', ⟨o', e', _, n', d'⟩, _⟩ := I.tuple h'
  rw [e] at e'; cases e'
  rw [d] at d'
  injection d' with d1 _
  have : its = its' := by simpa using congrArg Array.toList d1
  subst this
  exact r.inj r'
end
noncomputable abbrev Cx.wish (X : Cx) (E : Value → Shared → Prop) : Cx := { X with xe := E }
noncomputable abbrev Cx.nox (X : Cx) : Cx := X.wish fun _ _ => False
theorem Cx.Ok.wish {X : Cx} (ok : X.Ok) (E : Value → Shared → Prop) : (X.wish E).Ok :=
  ⟨ok.mod, ok.kind, ok.glob, ok.blt, ok.above, ok.inj, ok.has, ok.cab, ok.hd, ok.frames, ok.stk, ok.exf, ok.bs, ok.bsz, ok.noex, ok.exfs, ok.funs, ok.frf⟩
theorem Cx.Ok.unwish {X : Cx} {E : Value → Shared → Prop} (ok : (X.wish E).Ok) : X.Ok :=
  ⟨ok.mod, ok.kind, ok.glob, ok.blt, ok.above, ok.inj, ok.has, ok.cab, ok.hd, ok.frames, ok.stk, ok.exf, ok.bs, ok.bsz, ok.noex, ok.exfs, ok.funs, ok.frf⟩
section
variable {X : Cx} {pins : List (Addr × Obj)} {σ : St} {H : Hp} {s : Shared} {E : Value → Shared → Prop}
theorem Inv.wish (I : Inv X pins σ H s) (E : Value → Shared → Prop) : Inv (X.wish E) pins σ H s := ⟨I.ok.wish E, I.os, I.bare, I.base, I.loc, I.cell, I.free, I.freeC, I.pin, I.hok, I.len⟩
theorem Inv.unwish (I : Inv (X.wish E) pins σ H s) : Inv X pins σ H s := ⟨I.ok.unwish, I.os, I.bare, I.base, I.loc, I.cell, I.free, I.freeC, I.pin, I.hok, I.len⟩
theorem SP.unwish {D : Ends} {f : Flow} {s' : Shared} (h : SP (X.wish E) pins D f s') : SP X pins D f s' := by
  cases f with
  | next => obtain ⟨σ', H', I, q⟩ := h; exact ⟨σ', H', I.unwish, q⟩
  | brk => obtain ⟨σ', H', I, q⟩ := h; exact ⟨σ', H', I.unwish, q⟩
  | cont => obtain ⟨σ', H', I, q⟩ := h; exact ⟨σ', H', I.unwish, q⟩
  | ret u => obtain ⟨v, σ', H', I, r, q⟩ := h; exact ⟨v, σ', H', I.unwish, r, q⟩
theorem PSs.nox {st : List Stmt} {t : TS} (h : PSs X.nox st t) : PSs X st t := fun pins s σ H D I hw =>
  wpAny_mono (h pins s σ H D (I.wish _) hw) (fun _ _ q => q.unwish) fun _ _ z => False.elim z
end
section
variable {X : Cx} {st : Stmt} {rest : List Stmt} {t u : TS} {e : Expr} {te : TE} {pos : Pos}
noncomputable def tNext : TS := fun D σ H => D.nx σ H
noncomputable def tSeq (t u : TS) : TS := fun D σ H => t { D with nx := u D } σ H
theorem pss_nil : PSs X [] tNext := fun _ _ σ H _ I h => wpAny_execs_nil ⟨σ, H, I, h⟩
theorem pss_cons (h1 : PS X st t) (h2 : PSs X rest u) : PSs X (st :: rest) (tSeq t u) := by
  intro pins s σ H D I h
  refine wpAny_execs_cons (thn (h1 pins s σ H { D with nx := u D } I h) fun f s1 q => ?_)
  cases f with
  | next =>
    obtain ⟨σ', H', I', q⟩ := q
    exact h2 pins s1 σ' H' D I' q
  | ret v => exact q
  | brk => exact q
  | cont => exact q
theorem pss_one (h1 : PS X st t) : PSs X [st] t := by
  intro pins s σ H D I h
  refine wpAny_execs_cons (thn (h1 pins s σ H D I h) fun f s1 q => ?_)
  cases f with
  | next => exact wpAny_execs_nil q
  | ret v => exact q
  | brk => exact q
  | cont => exact q
theorem Inv.quiet {pins : List (Addr × Obj)} {σ : St} {H : Hp} {s : Shared} (I : Inv X pins σ H s) : interactive X.env = false := by simp [interactive, I.ok.kind]
noncomputable def tDrop (te : TE) : TS := fun D σ H => te σ H fun _ H1 => D.nx σ H1
theorem ps_expr (he : PE X e te) (hs : swapsWith e none pos.line X.env = pure false := by rfl) : PS X (.Expr e pos) (tDrop te) := by
  intro pins s σ H D I h
  exact wpAny_Expr_any (thn (he pins s σ H _ I h) fun v s1 ⟨x, H1, I1, r1, q1⟩ => ⟨σ, H1, I1, q1⟩) I.quiet hs
noncomputable def tRet (te : TE) : TS := fun D σ H => te σ H D.rt
theorem ps_ret (he : PE X e te) : PS X (.Return (some e) pos) (tRet te) := by
  intro pins s σ H D I h
  exact wpAny_Return_some (thn (he pins s σ H _ I h) fun v s1 ⟨x, H1, I1, r1, q1⟩ => ⟨x, σ, H1, I1, r1, q1⟩)
noncomputable def tIfS (c : TT) (t u : TS) : TS := fun D σ H => c σ H fun b H1 => if b = true then t D σ H1 else u D σ H1
theorem ps_if {c : Expr} {a b : List Stmt} {tc : TT} (hc : PT X c tc) (ha : PSs X a t) (hb : PSs X b u) : PS X (.If c a b pos) (tIfS tc t u) := by
  intro pins s σ H D I h
  refine wpAny_If (thn (hc pins s σ H _ I h) fun d s1 ⟨H1, I1, q1⟩ => ?_)
  cases d with
  | true => exact ha pins s1 σ H1 D I1 q1
  | false => exact hb pins s1 σ H1 D I1 q1
end
noncomputable abbrev TG := V → St → Hp → (St → Hp → Prop) → Prop
noncomputable abbrev TGs := List V → St → Hp → (St → Hp → Prop) → Prop
noncomputable def PG (X : Cx) (target : Expr) (t : TG) : Prop :=
  ∀ (pins : List (Addr × Obj)) (s : Shared) (σ : St) (H : Hp) (v : V) (u : Value) (Q : St → Hp → Prop), Inv X pins σ H s → RelV v u → t v σ H Q →
    wpAny (model X.prog X.w) X.A (assign target X.env u) (fun _ s' => ∃ σ' H', Inv X pins σ' H' s' ∧ Q σ' H') X.xe s
noncomputable def PGs (X : Cx) (ts : List Expr) (t : TGs) : Prop :=
  ∀ (pins : List (Addr × Obj)) (s : Shared) (σ : St) (H : Hp) (vs : List V) (us : List Value) (Q : St → Hp → Prop), Inv X pins σ H s → Vals vs us → t vs σ H Q →
    wpAny (model X.prog X.w) X.A (assignInOrder ((assignEach ts X.env).map (·.2)) us) (fun _ s' => ∃ σ' H', Inv X pins σ' H' s' ∧ Q σ' H') X.xe s
noncomputable abbrev TSet := V → V → V → Hp → (Hp → Prop) → Prop
noncomputable def PSet (X : Cx) (t : TSet) : Prop :=
  ∀ (pins : List (Addr × Obj)) (s : Shared) (σ : St) (H : Hp) (o i v : V) (ov iv u : Value) (Q : Hp → Prop), Inv X pins σ H s → RelV o ov → RelV i iv → RelV v u → t o i v H Q →
    wpAny (model X.prog X.w) X.A (setItem ov iv u) (fun _ s' => ∃ H', Inv X pins σ H' s' ∧ Q H') X.xe s
section
variable {X : Cx} {pos : Pos}
noncomputable def gName (i : Nat) : TG := fun v σ H Q => Q (σ.set i (some v)) H
theorem pg_name {i : Nat} {x : Str} (hN : X.N.Nodup) (hi : X.N[i]? = some x) (hx : Loc X.env.scope x) (hf : X.fn x = true ∨ X.env.scope.names.lookup x = some .local := by first | exact .inl rfl | exact .inr rfl | assumption) : PG X (.Name x pos) (gName i) := by
  intro pins s σ H v u Q I r h
  exact wpAny_assign_Name (store_ok I hN hi hx r (fun s' I' => ⟨_, H, I', h⟩) hf)
noncomputable def gNil : TGs := fun vs σ H Q => vs = [] ∧ Q σ H
noncomputable def gCons (t : TG) (u : TGs) : TGs := fun vs σ H Q => ∃ v r, vs = v :: r ∧ t v σ H fun σ' H' => u r σ' H' Q
theorem pgs_nil : PGs X [] gNil := by
  intro pins s σ H vs us Q I r h
  obtain ⟨e, h⟩ := h
  subst e
  cases r
  exact assignInOrder_nil ⟨σ, H, I, h⟩
theorem pgs_cons {e : Expr} {es : List Expr} {t : TG} {u : TGs} (h1 : PG X e t) (h2 : PGs X es u)
    (hs : (assignEach (e :: es) X.env).map (·.2) = assign e X.env :: (assignEach es X.env).map (·.2) := by rfl) : PGs X (e :: es) (gCons t u) := by
  intro pins s σ H vs us Q I r h
  obtain ⟨v, vr, e1, h⟩ := h
  subst e1
  cases r with
  | cons r rr =>
    rw [hs]
    refine assignInOrder_cons (thn (h1 pins s σ H _ _ _ I r h) fun _ s1 ⟨σ1, H1, I1, q1⟩ => ?_)
    exact h2 pins s1 σ1 H1 _ _ Q I1 rr q1
noncomputable def gTup (K : PySem.W.Frag) (n : Nat) (t : TGs) : TG := fun v σ H Q => ∃ a xs, v = .ref a ∧ SqT K H a xs ∧ xs.length = n ∧ t xs σ H Q
theorem pg_tup {es : List Expr} {k : Nat} {t : TGs} {n : Nat} (hc : X.calm = true) (h : PGs X es t)
    (hn : (assignEach es X.env).length = n := by rfl) (hst : (assignEach es X.env).findIdx? (·.1) = none := by rfl) : PG X (.Tuple es k pos) (gTup X.K n t) := by
  intro pins s σ H v u Q I r hw
  obtain ⟨a, xs, e1, hq, hl, hw⟩ := hw
  subst e1
  cases r
  obtain ⟨its, rv, ht, hz⟩ := I.tuple hq
  refine assign_Tuple_tuple (I.ok.hd hc) ht (by simp [hn, ← hl, rv.length]) hst fun h' hx => ?_
  have I1 : Inv X pins σ H { s with heap := h' } := I.kept (t' := s.toks) fun b o e => hx b o (Nat.ne_of_lt (Heap.lt_size e)) e
  exact h pins _ σ H xs _ Q I1 (by simpa using rv) hw
noncomputable def gSub (to ti : TE) (t : TSet) : TG := fun v σ H Q => to σ H fun o H1 => ti σ H1 fun i H2 => t o i v H2 fun H3 => Q σ H3
theorem pg_sub {o i : Expr} {to ti : TE} {t : TSet} (ho : PE X o to) (hi : PE X i ti) (hs : PSet X t)
    (ha : ∀ v, assign (.Subscript o i pos) X.env v = (do
      let ov ← holding [v] (eval o X.env)
      let iv ← holding [v, ov] (eval i X.env)
      standAt pos
      holding [v, ov, iv] (setItem ov iv v)
      release [v, ov, iv] []) := by intro _; rfl) : PG X (.Subscript o i pos) (gSub to ti t) := by
  intro pins s σ H v u Q I r h
  rw [ha]
  refine wpAny_bind (wpAny_holding (thn (ho pins s σ H _ I h) fun ov s1 ⟨x, H1, I1, r1, q1⟩ => ?_))
  refine wpAny_bind (wpAny_holding (thn (hi pins s1 σ H1 _ I1 q1) fun iv s2 ⟨y, H2, I2, r2, q2⟩ => ?_))
  refine wpAny_bind (wpAny_standAt (wpAny_bind (wpAny_holding (thn (hs pins s2 σ H2 x y v ov iv u _ I2 r1 r2 r q2) fun _ s3 ⟨H3, I3, q3⟩ => ?_))))
  exact wpAny_release ⟨σ, H3, I3, q3⟩
noncomputable def tAsg (te : TE) (g : TG) : TS := fun D σ H => te σ H fun x H1 => g x σ H1 D.nx
theorem ps_asg {tg e : Expr} {te : TE} {g : TG} (he : PE X e te) (hg : PG X tg g) (hs : swapsWithSole [tg] e pos.line X.env = pure false := by rfl) (hw : swappedStores [tg] e X.env = pure none := by rfl)
    (h1 : (assignEach [tg] X.env).map (·.2) = [assign tg X.env] := by rfl) : PS X (.Assign [tg] e pos) (tAsg te g) := by
  intro pins s σ H D I h
  refine wpAny_Assign_stores (thn (he pins s σ H _ I h) fun v s1 ⟨x, H1, I1, r1, q1⟩ => ?_) hs hw
  rw [h1]
  exact thn (hg pins s1 σ H1 x v _ I1 r1 q1) fun _ s2 q => q
theorem ps_set {i : Nat} {x : Str} {e : Expr} {te : TE} {pos' : Pos} (hN : X.N.Nodup) (hi : X.N[i]? = some x) (hx : Loc X.env.scope x) (he : PE X e te) (hs : swapsWith e (some (.Name x pos')) pos.line X.env = pure false := by rfl) (hf : X.fn x = true ∨ X.env.scope.names.lookup x = some .local := by first | exact .inl rfl | exact .inr rfl | assumption) :
    PS X (.Assign [.Name x pos'] e pos) (tAsg te (gName i)) := by
  intro pins s σ H D I h
  refine wpAny_Assign_Name (thn (he pins s σ H _ I h) fun v s1 ⟨y, H1, I1, r1, q1⟩ => ?_) hs
  exact store_ok I1 hN hi hx r1 (fun s2 I2 => ⟨_, H1, I2, q1⟩) hf
noncomputable def tPar (i j : Nat) (ta : TA) : TS := fun D σ H => ta σ H fun vs H1 => ∃ v w, vs = [v, w] ∧ D.nx ((σ.set i (some v)).set j (some w)) H1
theorem ps_par {i j : Nat} {x y : Str} {a b : Expr} {ta : TA} {px py pt : Pos} {kt k2 pt2} (hc : X.calm = true) (hN : X.N.Nodup) (hi : X.N[i]? = some x) (hj : X.N[j]? = some y) (hij : i ≠ j)
    (hx : X.env.scope.names.lookup x = some .local) (hy : X.env.scope.names.lookup y = some .local) (ha : PA X [a, b] ta)
    (hw : swappedStores [.Tuple [.Name x px, .Name y py] kt pt] (.Tuple [a, b] k2 pt2) X.env = pure (some [x, y]))
    (hs : swapsWithSole [.Tuple [.Name x px, .Name y py] kt pt] (.Tuple [a, b] k2 pt2) pos.line X.env = pure false := by rfl) :
    PS X (.Assign [.Tuple [.Name x px, .Name y py] kt pt] (.Tuple [a, b] k2 pt2) pos) (tPar i j ta) := by
  intro pins s σ H D I h
  rw [exec_Assign_arm]
  refine wpAny_bind (wpAny_standAt ?_)
  rw [hs]
  refine wpAny_bind (wpAny_pure ?_)
  rw [if_neg (by decide)]
  refine wpAny_bind (Tuple_ (thn (ha _ pins s σ H _ I h) fun us s1 ⟨vs, H1, I1, r1, q1⟩ => ?_))
  obtain ⟨v, w, e1, q1⟩ := q1
  subst e1
  obtain ⟨u1, u2, rfl, rv, rw'⟩ : ∃ u1 u2, us = [u1, u2] ∧ RelV v u1 ∧ RelV w u2 := by
    cases r1 with
    | cons p q =>
      cases q with
      | cons p' q' =>
        cases q'
        exact ⟨_, _, rfl, p, p'⟩
  refine wpAny_newObj_type ?_ (by show 2 ≤ sizeLine; decide)
  have I2 : Inv X pins σ H1 { s1 with heap := s1.heap.push { cls := .type "tuple", data := .seq [u1, u2].toArray } } := I1.kept (t' := s1.toks) fun b o e => Heap.get?_push_of_some _ e
  rw [hw]
  refine wpAny_bind (wpAny_pure ?_)
  show wpAny (model X.prog X.w) X.A (do rule "assign.swapped-stores"; let items ← unpackItems (.ref s1.heap.objs.size) 2 none; assignInOrder [fun v => bindName X.env y v, fun v => bindName X.env x v] items.reverse; pure Flow.next) _ _ _
  refine wpAny_bind (wpAny_rule (wpAny_bind (unpackItems_tuple (items := #[u1, u2]) (I.ok.hd hc) (IsTup.new s1.heap _) fun h' hx' => ?_)))
  have I3 := I2.kept (h' := h') (t' := s1.toks) fun b o e => hx' b o (Nat.ne_of_lt (Heap.lt_size e)) e
  show wpAny _ _ (assignInOrder [fun v => bindName X.env y v, fun v => bindName X.env x v] [u2, u1] >>= fun _ => pure Flow.next) _ _ _
  refine wpAny_bind (assignInOrder_cons (wpAny_bindName (store_ok I3 hN hj (.inl hy) rw' (fun s2 I4 => ?_) (.inr hy))))
  refine assignInOrder_cons (wpAny_bindName (store_ok I4 hN hi (.inl hx) rv (fun s3 I5 => assignInOrder_nil (wpAny_pure ?_)) (.inr hx)))
  rw [List.set_comm _ _ (Ne.symm hij)] at I5
  exact ⟨_, H1, I5, q1⟩
end
section
variable {X : Cx} {pos : Pos}
noncomputable def tWhile (c : TT) (tb : TS) : TS := fun D σ H => ∃ W : Nat → St → Hp → Prop, (∃ m, W m σ H) ∧ ∀ m σ H, W m σ H →
  c σ H fun b H1 => if b = true then ∃ N : St → Hp → Prop, (∀ σ' H', N σ' H' → ∃ m', m' < m ∧ W m' σ' H') ∧ tb { D with nx := N, ct := N, bk := D.nx } σ H1 else D.nx σ H1
theorem ps_while {c : Expr} {body : List Stmt} {tc : TT} {tb : TS} (hp : PassesOwn (model X.prog X.w) X.A X.env X.xe) (hc : PT X c tc) (hb : PSs X body tb) : PS X (.While c body [] pos) (tWhile tc tb) := by
  intro pins s σ H D I h
  obtain ⟨W, ⟨m0, w0⟩, turn⟩ := h
  refine wpAny_While (codeAny_whileLoop (fun n s' => ∃ σ' H', Inv X pins σ' H' s' ∧ W n σ' H') ?_ m0 ⟨σ, H, I, w0⟩)
  rintro n s1 ⟨σ1, H1, I1, w1⟩
  refine wpAny_passesOwn hp (thn (hc pins s1 σ1 H1 _ I1 (turn n σ1 H1 w1)) fun b s2 ⟨H2, I2, q2⟩ => ?_)
  cases b with
  | true =>
    obtain ⟨N, hN, q2⟩ := q2
    rw [if_pos rfl]
    refine wpAny_passesOwn hp (thn (hb pins s2 σ1 H2 _ I2 q2) fun f s3 q3 => ?_)
    cases f with
    | next =>
      obtain ⟨σ3, H3, I3, n3⟩ := q3
      obtain ⟨m', hm, w3⟩ := hN σ3 H3 n3
      exact ⟨m', hm, σ3, H3, I3, w3⟩
    | cont =>
      obtain ⟨σ3, H3, I3, n3⟩ := q3
      obtain ⟨m', hm, w3⟩ := hN σ3 H3 n3
      exact ⟨m', hm, σ3, H3, I3, w3⟩
    | brk => exact q3
    | ret v => exact q3
  | false =>
    rw [if_neg Bool.false_ne_true]
    exact wpAny_execs_nil ⟨σ1, H2, I2, q2⟩
end
structure It where
  go : Nat → Hp → Prop
  yld : Nat → Hp → V → Hp → Prop
  stop : Nat → Hp → Prop
noncomputable def FpOk (X : Cx) (pins : List (Addr × Obj)) (H : Hp) (b : Addr) : Prop :=
  H b = none ∧ b ≠ X.env.locals ∧ b ∉ X.fs ∧ (b ∈ X.ex ∨ X.s₀.heap.objs.size ≤ b) ∧ (∀ x c, X.env.cells.lookup x = some c → c ≠ b) ∧ ∀ p ∈ X.pn ++ pins, p.1 ≠ b
theorem Inv.fpOk {X : Cx} {pins : List (Addr × Obj)} {σ : St} {H H' : Hp} {s : Shared} {b : Addr} (I : Inv X pins σ H s) (hb : s.heap.objs.size ≤ b) (hn : H' b = none) : FpOk X pins H' b := by
  refine ⟨hn, Nat.ne_of_gt (Nat.lt_of_lt_of_le I.lt hb), I.nofs hb, .inr (Nat.le_trans I.sz hb), fun x c e z => ?_, fun p hp z => ?_⟩
  · obtain ⟨v, q⟩ := I.cell x c e
    exact absurd (Nat.lt_of_lt_of_le q.lt (by rw [z]; exact hb)) (Nat.lt_irrefl _)
  · exact absurd (Nat.lt_of_lt_of_le (Heap.lt_size (I.pin p hp).1) (by rw [z]; exact hb)) (Nat.lt_irrefl _)
structure Turn (P : Program) (w : World) (K : PySem.W.Frag) (tg : Expr) (J : It) (fp : List Addr) (it : Addr) (tn : Nat → Heap → Prop) : Prop where
  mem : it ∈ fp
  obj : ∀ i h, tn i h → ∀ b ∈ fp, ∃ o, h.get? b = some o ∧ ∀ v, o.data ≠ .cell v
  keep : ∀ i h h', tn i h → (∀ b ∈ fp, ∀ o, h.get? b = some o → h'.get? b = some o) → tn i h'
  item : ∀ (X : Cx), X.prog = P → X.w = w → X.K = K → X.calm = true → ∀ (i : Nat) (pins : List (Addr × Obj)) (s : Shared) (σ : St) (H : Hp) (E : Value → Shared → Prop), Inv X pins σ H s → (∀ b ∈ fp, FpOk X pins H b) → tn i s.heap → J.go i H →
    wpAny (model P w) X.A (pyNext (.ref it)) (fun r s1 => ∃ u, r = some u ∧
      wpAny (model P w) X.A (letOwnedTupleGo tg (.ref it) u) (fun _ s2 => ∃ x H', Inv X pins σ H' s2 ∧ RelV x u ∧ J.yld i H x H' ∧ tn (i + 1) s2.heap ∧ ∀ b ∈ fp, H' b = none) E s1) E s
  done : ∀ (X : Cx), X.prog = P → X.w = w → X.K = K → X.calm = true → ∀ (i : Nat) (pins : List (Addr × Obj)) (s : Shared) (σ : St) (H : Hp) (E : Value → Shared → Prop), Inv X pins σ H s → (∀ b ∈ fp, FpOk X pins H b) → tn i s.heap → J.stop i H →
    wpAny (model P w) X.A (pyNext (.ref it)) (fun r s1 => r = none ∧ Inv X pins σ H s1) E s
  self : ∀ (A : Around) (i : Nat) (s : Shared) (Q : Value → Shared → Prop) (E : Value → Shared → Prop), tn i s.heap → Q (.ref it) s → wpAny (model P w) A (pyIter (.ref it)) Q E s
noncomputable abbrev TI := St → Hp → (It → Hp → Prop) → Prop
noncomputable def PIE (X : Cx) (pins : List (Addr × Obj)) (σ : St) (tg : Expr) (R : It → Hp → Prop) (itv : Value) (s2 : Shared) : Prop :=
  ∃ (it : Addr) (fp : List Addr) (tn : Nat → Heap → Prop) (J : It) (H' : Hp), itv = .ref it ∧ Inv X pins σ H' s2 ∧ Turn X.prog X.w X.K tg J fp it tn ∧ tn 0 s2.heap ∧ (∀ b ∈ fp, FpOk X pins H' b) ∧ R J H'
noncomputable def PI (X : Cx) (tg iter : Expr) (wi : TI) : Prop :=
  ∀ (pins : List (Addr × Obj)) (s : Shared) (σ : St) (H : Hp) (R : It → Hp → Prop), Inv X pins σ H s → wi σ H R →
    wpAny (model X.prog X.w) X.A (eval iter X.env) (fun v s1 => wpAny (model X.prog X.w) X.A (pyIter v) (PIE X pins σ tg R) X.xe s1) X.xe s
theorem go_of {M : Model} {A : Around} {E : Value → Shared → Prop} {s : Shared} {tg : Expr} {it : Addr} {u : Value} {o : Obj} {n : String} {vs : Array Value} {Q : Unit → Shared → Prop} (ho : s.heap.get? it = some o) (hc : o.cls = .type n) (hd : o.data = .fields vs)
    (hn : ["enumerate", "zip", "dict_itemiterator", "dict_reverseitemiterator", "odict_iterator", "itertools.zip_longest", "itertools.pairwise"].contains n = false) (hQ : Q () s) : wpAny M A (letOwnedTupleGo tg (.ref it) u) Q E s := by
  unfold letOwnedTupleGo
  cases tg <;> first
    | exact wpAny_pure hQ
    | (cases u <;> first
        | exact wpAny_pure hQ
        | (refine wpAny_bind (wpAny_load ho ?_)
           rw [hc, hd]
           show wpAny M A (if (["enumerate", "zip", "dict_itemiterator", "dict_reverseitemiterator", "odict_iterator", "itertools.zip_longest", "itertools.pairwise"].contains n && vs[0]? == some (rawInt _)) = true then _ else _) Q E s
           rw [if_neg (by intro h; rw [hn, Bool.false_and] at h; cases h)]
           exact wpAny_pure hQ))
noncomputable def Itl (K : PySem.W.Frag) (a : Addr) : It :=
  ⟨fun i H => ∃ xs x, SqL K H a xs ∧ xs[i]? = some x, fun i H x H' => H' = H ∧ ∀ xs, SqL K H a xs → xs[i]? = some x, fun i H => ∃ xs, SqL K H a xs ∧ xs.length ≤ i⟩
noncomputable def Itt (K : PySem.W.Frag) (a : Addr) : It :=
  ⟨fun i H => ∃ xs x, SqT K H a xs ∧ xs[i]? = some x, fun i H x H' => H' = H ∧ ∀ xs, SqT K H a xs → xs[i]? = some x, fun i H => ∃ xs, SqT K H a xs ∧ xs.length ≤ i⟩
noncomputable def Itr (lo : Int) (n : Nat) : It := ⟨fun i _ => i < n, fun i H x H' => H' = H ∧ x = .int (lo + i), fun i _ => n ≤ i⟩
theorem turn_list {P : Program} {w : World} {K : PySem.W.Frag} {tg : Expr} (a it : Addr) : Turn P w K tg (Itl K a) [it] it (fun i h => h.IsListIter it a i) where
  mem := by simp
  obj := fun i h st b hb => by
    have e : b = it := by simpa using hb
    subst e
    obtain ⟨o, e, c, d⟩ := st
    exact ⟨o, e, fun v z => by rw [d] at z; cases z⟩
  keep := fun i h h' st k => st.at fun o e => k it (by simp) o e
  item := by
    intro X hP hw hK hc i pins s σ H E I hf st hg
    subst hP hw hK
    obtain ⟨xs, x, hq, hx⟩ := hg
    obtain ⟨its, rv, p, hz⟩ := I.list hq
    obtain ⟨u, hu, ru⟩ := rv.get hx
    obtain ⟨f0, f1, f2, f3, f4, f5⟩ := hf it (by simp)
    refine wpAny_pyNext_list_item st p.isList (x := u) (by simpa using hu) fun h' st' sb => ?_
    have I1 : Inv X pins σ H { s with heap := h' } := I.turned (t' := s.toks) (fun b o hb e => (sb.2 b hb).trans e) f0 f1 f3 f4 f5
    obtain ⟨o, e, c, d⟩ := id st'
    exact ⟨u, rfl, go_of (s := { s with heap := h' }) e c d (by decide) ⟨x, H, I1, ru, ⟨rfl, fun ys hy => by rw [I.list_inj hy hq]; exact hx⟩, st', fun b hb => (hf b hb).1⟩⟩
  done := by
    intro X hP hw hK hc i pins s σ H E I hf st hg
    subst hP hw hK
    obtain ⟨xs, hq, hx⟩ := hg
    obtain ⟨its, rv, p, hz⟩ := I.list hq
    obtain ⟨f0, f1, f2, f3, f4, f5⟩ := hf it (by simp)
    have hl := rv.length
    exact wpAny_pyNext_list_end (I.ok.hd hc) st p.isList (by simp; omega) fun h' eb => ⟨rfl, I.turned (t' := s.toks) (fun b o hb e => eb b o hb e) f0 f1 f3 f4 f5⟩
  self := fun _ _ _ _ _ st h => wpAny_pyIter_listiter st h
theorem turn_tuple {P : Program} {w : World} {K : PySem.W.Frag} {tg : Expr} (a it : Addr) : Turn P w K tg (Itt K a) [it] it (fun i h => h.IsTupleIter it a i) where
  mem := by simp
  obj := fun i h st b hb => by
    have e : b = it := by simpa using hb
    subst e
    obtain ⟨o, e, c, d⟩ := st
    exact ⟨o, e, fun v z => by rw [d] at z; cases z⟩
  keep := fun i h h' st k => st.at fun o e => k it (by simp) o e
  item := by
    intro X hP hw hK hc i pins s σ H E I hf st hg
    subst hP hw hK
    obtain ⟨xs, x, hq, hx⟩ := hg
    obtain ⟨its, rv, p, hz⟩ := I.tuple hq
    obtain ⟨u, hu, ru⟩ := rv.get hx
    obtain ⟨f0, f1, f2, f3, f4, f5⟩ := hf it (by simp)
    refine wpAny_pyNext_tuple_item st (show s.heap.IsTuple a its.toArray from p) (x := u) (by simpa using hu) fun h' st' sb => ?_
    have I1 : Inv X pins σ H { s with heap := h' } := I.turned (t' := s.toks) (fun b o hb e => (sb.2 b hb).trans e) f0 f1 f3 f4 f5
    obtain ⟨o, e, c, d⟩ := id st'
    exact ⟨u, rfl, go_of (s := { s with heap := h' }) e c d (by decide) ⟨x, H, I1, ru, ⟨rfl, fun ys hy => by rw [I.tuple_inj hy hq]; exact hx⟩, st', fun b hb => (hf b hb).1⟩⟩
  done := by
    intro X hP hw hK hc i pins s σ H E I hf st hg
    subst hP hw hK
    obtain ⟨xs, hq, hx⟩ := hg
    obtain ⟨its, rv, p, hz⟩ := I.tuple hq
    obtain ⟨f0, f1, f2, f3, f4, f5⟩ := hf it (by simp)
    have hl := rv.length
    exact wpAny_pyNext_tuple_end (I.ok.hd hc) st (show s.heap.IsTuple a its.toArray from p) (by simp; omega) fun h' eb => ⟨rfl, I.turned (t' := s.toks) (fun b o hb e => eb b o hb e) f0 f1 f3 f4 f5⟩
  self := fun _ _ _ _ _ st h => wpAny_pyIter_tupleiter st h
theorem turn_range {P : Program} {w : World} {K : PySem.W.Frag} {tg : Expr} (it : Addr) (lo : Int) (n : Nat) : Turn P w K tg (Itr lo n) [it] it (fun i h => IsRangeIter h it (lo + (i : Nat) * 1) ((n : Int) - (i : Nat)) 1) where
  mem := by simp
  obj := fun i h st b hb => by
    have e : b = it := by simpa using hb
    subst e
    exact ⟨_, st, fun v z => by
      have z' : Data.fields _ = Data.cell v := z
      cases z'⟩
  keep := fun i h h' st k => k it (by simp) _ st
  item := by
    intro X hP hw hK hc i pins s σ H E I hf st hg
    subst hP hw hK
    obtain ⟨f0, f1, f2, f3, f4, f5⟩ := hf it (by simp)
    have W := Walks.range (prog := X.prog) (w := X.w) (I.ok.hd hc) it lo 1 n
    refine W.item i s _ _ hg st fun v h' tk hv st' kk => ?_
    obtain ⟨t, rfl⟩ := hv
    have I1 : Inv X pins σ H { s with heap := h', toks := tk } := I.turned (fun b o hb e => kk b o (by simpa using hb) e) f0 f1 f3 f4 f5
    refine ⟨_, rfl, go_of (s := { s with heap := h', toks := tk }) (n := "range_iterator") st' rfl rfl (by decide) ⟨.int (lo + i), H, I1, ⟨t, ?_⟩, ⟨rfl, rfl⟩, st', fun b hb => (hf b hb).1⟩⟩
    rw [Int.mul_one]
  done := by
    intro X hP hw hK hc i pins s σ H E I hf st hg
    subst hP hw hK
    obtain ⟨f0, f1, f2, f3, f4, f5⟩ := hf it (by simp)
    exact wpAny_pyNext_range_end (I.ok.hd hc) st (by have : n ≤ i := hg; omega) fun h' eb => ⟨rfl, I.turned (t' := s.toks) (fun b o hb e => eb b o hb e) f0 f1 f3 f4 f5⟩
  self := fun _ _ _ _ _ st h => wpAny_pyIter_rangeiter st h
end L2
namespace L2
open PySem PySem.Spec PyProof.Rows
section
variable {X : Cx} {tg : Expr}
noncomputable def iList (K : PySem.W.Frag) (tl : TE) : TI := fun σ H R => tl σ H fun x H1 => ∃ a, x = .ref a ∧ (∃ xs, SqL K H1 a xs) ∧ R (Itl K a) H1
noncomputable def iTup (K : PySem.W.Frag) (tl : TE) : TI := fun σ H R => tl σ H fun x H1 => ∃ a, x = .ref a ∧ (∃ xs, SqT K H1 a xs) ∧ R (Itt K a) H1
theorem pi_list {l : Expr} {tl : TE} (hl : PE X l tl) : PI X tg l (iList X.K tl) := by
  intro pins s σ H R I h
  refine thn (hl pins s σ H _ I h) fun v s1 ⟨x, H1, I1, r1, q1⟩ => ?_
  obtain ⟨a, e, ⟨xs, hq⟩, q⟩ := q1
  subst e
  cases r1
  obtain ⟨its, rv, p, hz⟩ := I1.list hq
  refine wpAny_pyIter_list p.isList ?_
  refine ⟨s1.heap.objs.size, [s1.heap.objs.size], _, _, H1, rfl, I1.kept (t' := s1.toks) fun b o e => Heap.get?_push_of_some _ e, turn_list a _, ⟨_, Heap.get?_push_size _ rfl, rfl, rfl⟩, fun b hb => ?_, q⟩
  have e : b = s1.heap.objs.size := by simpa using hb
  subst e
  exact I1.fpOk (Nat.le_refl _) (I1.hok.fresh (Nat.le_refl _))
theorem pi_tup {l : Expr} {tl : TE} (hl : PE X l tl) : PI X tg l (iTup X.K tl) := by
  intro pins s σ H R I h
  refine thn (hl pins s σ H _ I h) fun v s1 ⟨x, H1, I1, r1, q1⟩ => ?_
  obtain ⟨a, e, ⟨xs, hq⟩, q⟩ := q1
  subst e
  cases r1
  obtain ⟨its, rv, p, hz⟩ := I1.tuple hq
  refine wpAny_pyIter_tuple (show s1.heap.IsTuple a its.toArray from p) ?_
  refine ⟨s1.heap.objs.size, [s1.heap.objs.size], _, _, H1, rfl, I1.kept (t' := s1.toks) fun b o e => Heap.get?_push_of_some _ e, turn_tuple a _, ⟨_, Heap.get?_push_size _ rfl, rfl, rfl⟩, fun b hb => ?_, q⟩
  have e : b = s1.heap.objs.size := by simpa using hb
  subst e
  exact I1.fpOk (Nat.le_refl _) (I1.hok.fresh (Nat.le_refl _))
theorem range_it {pins : List (Addr × Obj)} {σ : St} {H : Hp} {s : Shared} {R : It → Hp → Prop} {E : Value → Shared → Prop} {lo hi : Int} {t u v : Tok} {tk : Nat} (I : Inv X pins σ H s) (h1 : -(2 ^ 62) ≤ lo) (h2 : lo < 2 ^ 62) (h3 : -(2 ^ 62) ≤ hi) (h4 : hi < 2 ^ 62)
    (q : R (Itr lo (hi - lo).toNat) H) : wpAny (model X.prog X.w) X.A (pyIter (.ref s.heap.objs.size)) (PIE X pins σ tg R) E { s with heap := s.heap.push { cls := .type "range", data := .fields #[.int lo t, .int hi u, .int 1 v] }, toks := tk } := by
  refine wpAny_pyIter_range (IsRange.new ..) (small_one h1 h2 h3 h4) ?_
  have I1 : Inv X pins σ H { s with heap := s.heap.push { cls := .type "range", data := .fields #[.int lo t, .int hi u, .int 1 v] }, toks := tk } := I.kept fun b o e => Heap.get?_push_of_some _ e
  refine ⟨(s.heap.push { cls := .type "range", data := .fields #[.int lo t, .int hi u, .int 1 v] }).objs.size, [(s.heap.push { cls := .type "range", data := .fields #[.int lo t, .int hi u, .int 1 v] }).objs.size], _, _, H, rfl,
    I1.kept (t' := tk) fun b o e => Heap.get?_push_of_some _ e, turn_range _ lo (hi - lo).toNat, ?_, fun b hb => ?_, q⟩
  · have e1 : lo + ((0 : Nat) : Int) * 1 = lo := by simp
    have e2 : (((hi - lo).toNat : Nat) : Int) - ((0 : Nat) : Int) = Builtin.Range.rangeSize lo hi 1 := by rw [rangeSize_one]; split <;> omega
    show IsRangeIter _ _ (lo + ((0 : Nat) : Int) * 1) ((((hi - lo).toNat : Nat) : Int) - ((0 : Nat) : Int)) 1
    rw [e1, e2]
    exact Heap.get?_push_size _ rfl
  · have e : b = (s.heap.push { cls := .type "range", data := .fields #[.int lo t, .int hi u, .int 1 v] }).objs.size := by simpa using hb
    subst e
    exact I1.fpOk (Nat.le_refl _) (I1.hok.fresh (Nat.le_refl _))
noncomputable def iRng1 (ta : TA) : TI := fun σ H R => ta σ H fun vs H1 => ∃ j : Int, vs = [.int j] ∧ -(2 ^ 62) ≤ j ∧ j < 2 ^ 62 ∧ R (Itr 0 j.toNat) H1
theorem pi_range1 {a : Expr} {ta : TA} {p pos : Pos} (hg : Gl X "range") (hm : X.mg "range" = none) (ha : PA X [a] ta) (hs : starEach [a] X.env = [(false, eval a X.env)] := by rfl) : PI X tg (.Call (.Name "range" p) [a] [] pos) (iRng1 ta) := by
  intro pins s σ H R I h
  refine Call_ (ld_blt I hg hm boot_range (PyProof.Rows.callWith_type1 (thn (ha pos pins s σ H _ I h) fun us s1 ⟨vs, H1, I1, r1, q1⟩ => ?_) hs rfl))
  obtain ⟨j, e, q1, q2, q⟩ := q1
  subst e
  cases r1 with
  | cons r rr =>
    cases rr
    obtain ⟨t, rfl⟩ := r
    exact call_range_1 (range_it I1 (by omega) (by omega) q1 q2 (by simpa using q))
noncomputable def tFor (wi : TI) (g : TG) (tb : TS) : TS := fun D σ H => wi σ H fun J H1 => ∃ W : Nat → Nat → St → Hp → Prop, (∃ m, W 0 m σ H1) ∧ ∀ i m σ H, W i m σ H →
  (J.stop i H ∧ D.nx σ H) ∨ (J.go i H ∧ ∃ N : St → Hp → Prop, (∀ σ' H', N σ' H' → ∃ m', m' < m ∧ W (i + 1) m' σ' H') ∧ ∀ x H', J.yld i H x H' → g x σ H' fun σ2 H2 => tb { D with nx := N, ct := N, bk := D.nx } σ2 H2)
noncomputable def pinsAt (fp : List Addr) (h : Heap) : List (Addr × Obj) := fp.filterMap fun b => (h.get? b).map fun o => (b, o)
theorem mem_pinsAt {fp : List Addr} {h : Heap} {b : Addr} {o : Obj} (hb : b ∈ fp) (e : h.get? b = some o) : (b, o) ∈ pinsAt fp h := List.mem_filterMap.mpr ⟨b, hb, by rw [e]; rfl⟩
theorem of_pinsAt {fp : List Addr} {h : Heap} {p : Addr × Obj} (hp : p ∈ pinsAt fp h) : p.1 ∈ fp ∧ h.get? p.1 = some p.2 := by
  obtain ⟨b, hb, e⟩ := List.mem_filterMap.mp hp
  cases q : h.get? b with
  | none => rw [q] at e; cases e
  | some o =>
    rw [q] at e
    have e' : (b, o) = p := Option.some.inj e
    subst e'
    exact ⟨hb, q⟩
theorem Inv.pinned {pins : List (Addr × Obj)} {σ : St} {H : Hp} {s : Shared} {fp : List Addr} (I : Inv X pins σ H s) (hf : ∀ b ∈ fp, FpOk X pins H b) (ho : ∀ b ∈ fp, ∃ o, s.heap.get? b = some o ∧ ∀ v, o.data ≠ .cell v) : Inv X (pins ++ pinsAt fp s.heap) σ H s :=
  I.pins_of fun p hp => (List.mem_append.mp hp).elim (fun z => I.pin p (List.mem_append_right _ z)) fun z => by
    obtain ⟨hb, e⟩ := of_pinsAt z
    obtain ⟨f0, f1, f2, _⟩ := hf p.1 hb
    obtain ⟨o, e', d⟩ := ho p.1 hb
    rw [e] at e'; cases e'
    exact ⟨e, f0, f1, f2, d⟩
theorem Inv.unpinned {pins pl : List (Addr × Obj)} {σ : St} {H : Hp} {s : Shared} (I : Inv X (pins ++ pl) σ H s) : Inv X pins σ H s := I.pins_of fun p hp => I.pin p (List.mem_append_right _ (List.mem_append_left _ hp))
theorem ps_for {iter : Expr} {body : List Stmt} {wi : TI} {g : TG} {tb : TS} {pos : Pos} (hp : PassesOwn (model X.prog X.w) X.A X.env X.xe) (hc : X.calm = true) (hi : PI X tg iter wi) (hg : PG X tg g) (hb : PSs X body tb)
    (hs : ∀ x, foldedSetIterable iter X.env x = pure x := by intro _; rfl) : PS X (.For tg iter body [] pos) (tFor wi g tb) := by
  intro pins s σ H D I h
  refine wpAny_For (thn (hi pins s σ H _ I h) fun v s1 h1 => thn h1 fun itv s2 h2 => ?_) hs
  obtain ⟨it, fp, tn, J, H2, e, I2, T, st2, f2, W, ⟨m0, w0⟩, turn⟩ := h2
  subst e
  have stat : ∀ {H' : Hp}, (∀ b ∈ fp, H' b = none) → ∀ b ∈ fp, FpOk X pins H' b := fun hn b hb => ⟨hn b hb, (f2 b hb).2⟩
  refine codeAny_forLoop_any (fun n s' => ∃ i σ' H', Inv X pins σ' H' s' ∧ tn i s'.heap ∧ (∀ b ∈ fp, H' b = none) ∧ W i n σ' H') ?_ m0 ⟨0, σ, H2, I2, st2, fun b hb => (f2 b hb).1, w0⟩
  rintro n s3 ⟨i, σ3, H3, I3, st3, fr3, w3⟩
  rcases turn i n σ3 H3 w3 with ⟨stop, qn⟩ | ⟨go, N, hN, step⟩
  · refine wpAny_passesOwn hp (thn (T.done X rfl rfl rfl hc i pins s3 σ3 H3 X.xe I3 (stat fr3) st3 stop) fun r s4 ⟨hr, I4⟩ => ?_)
    subst hr
    exact wpAny_execs_nil ⟨σ3, H3, I4, qn⟩
  · refine wpAny_passesOwn hp (thn (T.item X rfl rfl rfl hc i pins s3 σ3 H3 X.xe I3 (stat fr3) st3 go) fun r s4 ⟨u, hr, h4⟩ => ?_)
    subst hr
    refine wpAny_passesOwn hp (thn h4 fun _ s5 ⟨x, H5, I5, r5, y5, st5, fr5⟩ => ?_)
    have I5' := I5.pinned (stat fr5) (T.obj _ _ st5)
    refine wpAny_passesOwn hp (thn (hg _ s5 σ3 H5 x u _ I5' r5 (step x H5 y5)) fun _ s6 ⟨σ6, H6, I6, q6⟩ => ?_)
    refine wpAny_passesOwn hp (thn (hb _ s6 σ6 H6 _ I6 q6) fun f s7 q7 => ?_)
    have again : ∀ {σ7 : St} {H7 : Hp}, Inv X (pins ++ pinsAt fp s5.heap) σ7 H7 s7 → N σ7 H7 → ∃ m, m < n ∧ ∃ i σ' H', Inv X pins σ' H' s7 ∧ tn i s7.heap ∧ (∀ b ∈ fp, H' b = none) ∧ W i m σ' H' := fun {σ7 H7} I7 n7 => by
      obtain ⟨m', hm, w7⟩ := hN σ7 H7 n7
      refine ⟨m', hm, i + 1, σ7, H7, I7.unpinned, T.keep _ _ _ st5 fun b hb o e => (I7.pin (b, o) (List.mem_append_right _ (List.mem_append_right _ (mem_pinsAt hb e)))).1, fun b hb => ?_, w7⟩
      obtain ⟨o, e, d⟩ := T.obj _ _ st5 b hb
      exact (I7.pin (b, o) (List.mem_append_right _ (List.mem_append_right _ (mem_pinsAt hb e)))).2.1
    cases f with
    | next => obtain ⟨σ7, H7, I7, n7⟩ := q7; exact again I7 n7
    | cont => obtain ⟨σ7, H7, I7, n7⟩ := q7; exact again I7 n7
    | brk => obtain ⟨σ7, H7, I7, q7⟩ := q7; exact ⟨σ7, H7, I7.unpinned, q7⟩
    | ret v => obtain ⟨x7, σ7, H7, I7, r7, q7⟩ := q7; exact ⟨x7, σ7, H7, I7.unpinned, r7, q7⟩
end
end L2
namespace L2
open PySem PySem.Spec PyProof.Rows
noncomputable abbrev R2 := V → V → Hp → VK → Prop
noncomputable def OpR (X : Cx) (f : Value → Value → Sem Value) (r : R2) : Prop :=
  ∀ (pins : List (Addr × Obj)) (s : Shared) (σ : St) (H : Hp) (x y : V) (v u : Value) (Q : VK), Inv X pins σ H s → RelV x v → RelV y u → r x y H Q →
    wpAny (model X.prog X.w) X.A (f v u) (EP X pins σ Q) X.xe s
noncomputable def UnR (X : Cx) (f : Value → Sem Value) (r : V → Hp → VK → Prop) : Prop :=
  ∀ (pins : List (Addr × Obj)) (s : Shared) (σ : St) (H : Hp) (x : V) (v : Value) (Q : VK), Inv X pins σ H s → RelV x v → r x H Q →
    wpAny (model X.prog X.w) X.A (f v) (EP X pins σ Q) X.xe s
noncomputable def CallR (X : Cx) (f : Value) (r : List V → Hp → VK → Prop) : Prop :=
  ∀ (pins : List (Addr × Obj)) (s : Shared) (σ : St) (H : Hp) (xs : List V) (us : List Value) (Q : VK), Inv X pins σ H s → Vals xs us → r xs H Q →
    wpAny (model X.prog X.w) X.A (call f us) (EP X pins σ Q) X.xe s
noncomputable def TruR (X : Cx) (r : V → Hp → (Bool → Hp → Prop) → Prop) : Prop :=
  ∀ (pins : List (Addr × Obj)) (s : Shared) (σ : St) (H : Hp) (x : V) (v : Value) (Q : Bool → Hp → Prop), Inv X pins σ H s → RelV x v → r x H Q →
    wpAny (model X.prog X.w) X.A (truthy v) (TP X pins σ Q) X.xe s
noncomputable def tOp (r : R2) (ta tb : TE) : TE := fun σ H Q => ta σ H fun x H1 => tb σ H1 fun y H2 => r x y H2 Q
noncomputable def tUn (r : V → Hp → VK → Prop) (ta : TE) : TE := fun σ H Q => ta σ H fun x H1 => r x H1 Q
noncomputable def rI (C : Int → Int → Prop) (g : Int → Int → V) : R2 := fun x y H Q => ∃ i j, x = .int i ∧ y = .int j ∧ C i j ∧ Q (g i j) H
noncomputable def rI0 (g : Int → Int → V) : R2 := fun x y H Q => ∃ i j, x = .int i ∧ y = .int j ∧ Q (g i j) H
noncomputable def rU (g : Int → V) : V → Hp → VK → Prop := fun x H Q => ∃ i, x = .int i ∧ Q (g i) H
section
variable {X : Cx} {a b c : Expr} {ta tb tc : TE} {pos : Pos}
theorem binT (ha : PE X a ta) (hb : PE X b tb) {pins : List (Addr × Obj)} {s : Shared} {σ : St} {H : Hp} {R : V → V → Hp → Prop} (I : Inv X pins σ H s)
    (h : ta σ H fun x H1 => tb σ H1 fun y H2 => R x y H2) {Q : Value → Shared → Prop} {f : Value → Value → Sem Value}
    (hf : ∀ v u s2 x y H2, Inv X pins σ H2 s2 → RelV x v → RelV y u → R x y H2 → wpAny (model X.prog X.w) X.A (f v u) Q X.xe s2) :
    wpAny (model X.prog X.w) X.A (eval a X.env) (fun v s₁ => wpAny (model X.prog X.w) X.A (eval b X.env) (fun u s₂ => wpAny (model X.prog X.w) X.A (f v u) Q X.xe s₂) X.xe s₁) X.xe s := by
  refine thn (ha pins s σ H _ I h) fun v s1 ⟨x, H1, I1, r1, q1⟩ => ?_
  refine thn (hb pins s1 σ H1 _ I1 q1) fun u s2 ⟨y, H2, I2, r2, q2⟩ => ?_
  exact hf v u s2 x y H2 I2 r1 r2 q2
theorem pe_op {op : Operator} {r : R2} (ho : OpR X (binaryOp op) r) (ha : PE X a ta) (hb : PE X b tb) : PE X (.BinOp a op b pos) (tOp r ta tb) := by
  intro pins s σ H Q I h
  exact wpAny_BinOp (binT ha hb I h fun v u s2 x y H2 I2 rx ry q => ho pins s2 σ H2 x y v u Q I2 rx ry q)
theorem pe_un {op : UnaryOp} {r : V → Hp → VK → Prop} (ho : UnR X (unaryOp op) r) (ha : PE X a ta) : PE X (.UnaryOp op a pos) (tUn r ta) := by
  intro pins s σ H Q I h
  exact UnaryOp_ (thn (ha pins s σ H _ I h) fun v s1 ⟨x, H1, I1, r1, q1⟩ => ho pins s1 σ H1 x v Q I1 r1 q1)
theorem opI {f : Value → Value → Sem Value} {C : Int → Int → Prop} {g : Int → Int → Int}
    (rule : ∀ (i j : Int) (t u : Tok) (s : Shared) (Q : Value → Shared → Prop) (E : Value → Shared → Prop), C i j → Q (.int (g i j) s.toks) { s with toks := s.toks + 1 } → wpAny (model X.prog X.w) X.A (f (.int i t) (.int j u)) Q E s) :
    OpR X f (rI C fun i j => .int (g i j)) := by
  intro pins s σ H x y v u Q I rx ry h
  obtain ⟨i, j, rfl, rfl, hc, q⟩ := h
  obtain ⟨t, rfl⟩ := rx
  obtain ⟨t', rfl⟩ := ry
  exact rule i j t t' s _ _ hc ⟨.int (g i j), H, I.tok _, ⟨_, rfl⟩, q⟩
theorem opI0 {f : Value → Value → Sem Value} {g : Int → Int → Int}
    (rule : ∀ (i j : Int) (t u : Tok) (s : Shared) (Q : Value → Shared → Prop) (E : Value → Shared → Prop), Q (.int (g i j) s.toks) { s with toks := s.toks + 1 } → wpAny (model X.prog X.w) X.A (f (.int i t) (.int j u)) Q E s) :
    OpR X f (rI0 fun i j => .int (g i j)) := by
  intro pins s σ H x y v u Q I rx ry h
  obtain ⟨i, j, rfl, rfl, q⟩ := h
  obtain ⟨t, rfl⟩ := rx
  obtain ⟨t', rfl⟩ := ry
  exact rule i j t t' s _ _ ⟨.int (g i j), H, I.tok _, ⟨_, rfl⟩, q⟩
theorem opB0 {f : Value → Value → Sem Value} {g : Int → Int → Bool}
    (rule : ∀ (i j : Int) (t u : Tok) (s : Shared) (Q : Value → Shared → Prop) (E : Value → Shared → Prop), Q (.bool (g i j)) s → wpAny (model X.prog X.w) X.A (f (.int i t) (.int j u)) Q E s) :
    OpR X f (rI0 fun i j => .bl (g i j)) := by
  intro pins s σ H x y v u Q I rx ry h
  obtain ⟨i, j, rfl, rfl, q⟩ := h
  obtain ⟨t, rfl⟩ := rx
  obtain ⟨t', rfl⟩ := ry
  exact rule i j t t' s _ _ ⟨.bl (g i j), H, I, rfl, q⟩
noncomputable def CDiv (i j : Int) : Prop := 0 < j ∧ j < 1073741824
noncomputable def CPow (i j : Int) : Prop := 0 ≤ j ∧ j ≤ 1000000 ∧ i.natAbs < 2 ^ 64
noncomputable def CMul (i j : Int) : Prop := (-(2 ^ 64) < i ∧ i < 2 ^ 64) ∨ (-(2 ^ 64) < j ∧ j < 2 ^ 64)
theorem CMul.ok {i j : Int} (h : CMul i j) : IntMulOk i j := by
  rcases h with ⟨h1, h2⟩ | ⟨h1, h2⟩
  · exact .of_left (intBits_le_64 h1 h2)
  · exact .of_right (intBits_le_64 h1 h2)
theorem op_add : OpR X (binaryOp .Add) (rI0 fun i j => .int (i + j)) := opI0 fun _ _ _ _ _ _ _ q => add_int q
theorem op_sub : OpR X (binaryOp .Sub) (rI0 fun i j => .int (i - j)) := opI0 fun _ _ _ _ _ _ _ q => sub_int q
theorem op_mul : OpR X (binaryOp .Mult) (rI CMul fun i j => .int (i * j)) := opI fun _ _ _ _ _ _ _ hc q => mul_int q hc.ok
theorem op_fdiv : OpR X (binaryOp .FloorDiv) (rI CDiv fun i j => .int (i / j)) := opI fun i j _ _ _ _ _ hc q => by
  have h1 : (0 : Int) < j := hc.1
  have h2 : j < 1073741824 := hc.2
  exact floordiv_int (by omega) (by rw [Int.fdiv_eq_ediv_of_nonneg i (by omega)]; exact q) (.inl (PyProof.noPylong_small (by omega)))
theorem op_mod : OpR X (binaryOp .Mod) (rI (fun _ j => 0 < j) fun i j => .int (i % j)) := opI fun i j _ _ _ _ _ hc q => by
  have h1 : (0 : Int) < j := hc
  exact mod_int' (by omega) (by rw [Int.fmod_eq_emod_of_nonneg i (by omega)]; exact q)
theorem op_pow : OpR X (binaryOp .Pow) (rI CPow fun i j => .int (i ^ j.toNat)) := opI fun _ _ _ _ _ _ _ hc q => pow_int_small hc.1 hc.2.1 hc.2.2 q
theorem op_shl : OpR X (binaryOp .LShift) (rI CPow fun i j => .int (i * 2 ^ j.toNat)) := opI fun _ _ _ _ _ _ _ hc q => lshift_int_small hc.1 hc.2.1 hc.2.2 q
theorem unI {f : Value → Sem Value} {g : Int → Int}
    (rule : ∀ (i : Int) (t : Tok) (s : Shared) (Q : Value → Shared → Prop) (E : Value → Shared → Prop), Q (.int (g i) s.toks) { s with toks := s.toks + 1 } → wpAny (model X.prog X.w) X.A (f (.int i t)) Q E s) :
    UnR X f (rU fun i => .int (g i)) := by
  intro pins s σ H x v Q I rx h
  obtain ⟨i, rfl, q⟩ := h
  obtain ⟨t, rfl⟩ := rx
  exact rule i t s _ _ ⟨.int (g i), H, I.tok _, ⟨_, rfl⟩, q⟩
theorem un_neg : UnR X (unaryOp .USub) (rU fun i => .int (-i)) := unI fun _ _ _ _ _ q => neg_int q
end
section
variable {X : Cx} {a b c : Expr} {ta tb tc : TE} {pos : Pos}
theorem fin_bl {pins : List (Addr × Obj)} {σ : St} {H : Hp} {s : Shared} {Q : VK} {k k' : Bool} (I : Inv X pins σ H s) (q : Q (.bl k) H) (e : k = k') : EP X pins σ Q (.bool k') s := by
  subst e
  exact ⟨.bl k, H, I, rfl, q⟩
theorem op_lt : OpR X (compareOp .Lt) (rI0 fun i j => .bl (decide (i < j))) := opB0 fun _ _ _ _ _ _ _ q => lt_int q
theorem op_le : OpR X (compareOp .LtE) (rI0 fun i j => .bl (decide (i ≤ j))) := opB0 fun _ _ _ _ _ _ _ q => le_int q
theorem op_gt : OpR X (compareOp .Gt) (rI0 fun i j => .bl (decide (j < i))) := opB0 fun _ _ _ _ _ _ _ q => gt_int q
theorem op_ge : OpR X (compareOp .GtE) (rI0 fun i j => .bl (decide (j ≤ i))) := opB0 fun _ _ _ _ _ _ _ q => ge_int q
theorem op_isN : OpR X (compareOp .Is) (fun x y H Q => y = .non ∧ Q (.bl (decide (x = .non))) H) := by
  intro pins s σ H x y v u Q I rx ry h
  obtain ⟨rfl, q⟩ := h
  cases ry
  refine is_none_gen (fin_bl I q ?_)
  cases x <;> first
    | (cases rx; rfl)
    | (obtain ⟨t, rfl⟩ := rx; rfl)
theorem op_notN : OpR X (compareOp .IsNot) (fun x y H Q => y = .non ∧ Q (.bl (!decide (x = .non))) H) := by
  intro pins s σ H x y v u Q I rx ry h
  obtain ⟨rfl, q⟩ := h
  cases ry
  refine isnot_none_gen (fin_bl I q ?_)
  cases x <;> first
    | (cases rx; rfl)
    | (obtain ⟨t, rfl⟩ := rx; rfl)
theorem nomark (b : Expr) {op : CmpOp} (h : op ≠ .In := by decide) (h2 : op ≠ .NotIn := by decide) : behindInMarks op b = false := by
  have e1 : (op == CmpOp.In) = false := by cases op <;> first | rfl | exact absurd rfl h
  have e2 : (op == CmpOp.NotIn) = false := by cases op <;> first | rfl | exact absurd rfl h2
  cases b <;> simp [behindInMarks, e1, e2]
theorem pe_cmpR {op : CmpOp} {r : R2} (ho : OpR X (compareOp op) r) (ha : PE X a ta) (hb : PE X b tb) (hm : behindInMarks op b = false) : PE X (.Compare a [op] [b] pos) (tOp r ta tb) := by
  intro pins s σ H Q I h
  exact wpAny_Compare1 (binT ha hb I h fun v u s2 x y H2 I2 rx ry q => ho pins s2 σ H2 x y v u Q I2 rx ry q) hm
noncomputable def tTest (t : TE) : TT := fun σ H Q => t σ H fun x H' => ∃ k, x = .bl k ∧ Q k H'
theorem pt_cmpR {op : CmpOp} {r : R2} (ho : OpR X (compareOp op) r) (ha : PE X a ta) (hb : PE X b tb) (hm : behindInMarks op b = false) : PT X (.Compare a [op] [b] pos) (tTest (tOp r ta tb)) := by
  intro pins s σ H Q I h
  refine wpAny_isTrue_Compare1 (thn (ha pins s σ H _ I h) fun v s1 ⟨x, H1, I1, r1, q1⟩ => thn (hb pins s1 σ H1 _ I1 q1) fun u s2 ⟨y, H2, I2, r2, q2⟩ =>
    thn (ho pins s2 σ H2 x y v u _ I2 r1 r2 q2) fun c s3 ⟨z, H3, I3, r3, k, e, q3⟩ => ?_) hm
  subst e
  cases r3
  exact wpAny_truthy_bool ⟨H3, I3, q3⟩
noncomputable def tChain (r r' : R2) (ta tb tc : TE) : TE := fun σ H Q => ta σ H fun x H1 => tb σ H1 fun y H2 => r x y H2 fun z H3 => ∃ k, z = .bl k ∧
  (if k = true then tc σ H3 fun w' H4 => r' y w' H4 Q else Q (.bl false) H3)
theorem pe_chain {op op' : CmpOp} {r r' : R2} (ho : OpR X (compareOp op) r) (ho' : OpR X (compareOp op') r') (ha : PE X a ta) (hb : PE X b tb) (hc : PE X c tc)
    (hm : lastMarks [op, op'] [b, c] = false := by with_unfolding_all rfl) : PE X (.Compare a [op, op'] [b, c] pos) (tChain r r' ta tb tc) := by
  intro pins s σ H Q I h
  refine Compare_chain (thn (ha pins s σ H _ I h) fun v s1 ⟨x, H1, I1, r1, q1⟩ => chain_link (thn (hb pins s1 σ H1 _ I1 q1) fun u s2 ⟨y, H2, I2, r2, q2⟩ =>
    thn (ho pins s2 σ H2 x y v u _ I2 r1 r2 q2) fun d s3 ⟨z, H3, I3, r3, k, e, q3⟩ => ?_)) hm
  subst e
  cases r3
  refine wpAny_truthy_bool ?_
  cases k with
  | false => exact ite_ff ⟨.bl false, H3, I3, rfl, q3⟩
  | true => exact ite_tt (chain_last (thn (hc pins s3 σ H3 _ I3 q3) fun w' s4 ⟨z', H4, I4, r4, q4⟩ => ho' pins s4 σ H4 y z' u w' Q I4 r2 r4 q4))
theorem pt_chain {op op' : CmpOp} {r r' : R2} (ho : OpR X (compareOp op) r) (ho' : OpR X (compareOp op') r') (ha : PE X a ta) (hb : PE X b tb) (hc : PE X c tc)
    (hm : lastMarks [op, op'] [b, c] = false := by with_unfolding_all rfl) : PT X (.Compare a [op, op'] [b, c] pos) (tTest (tChain r r' ta tb tc)) := by
  intro pins s σ H Q I h
  refine isTrue_chain (thn (ha pins s σ H _ I h) fun v s1 ⟨x, H1, I1, r1, q1⟩ => test_link (thn (hb pins s1 σ H1 _ I1 q1) fun u s2 ⟨y, H2, I2, r2, q2⟩ =>
    thn (ho pins s2 σ H2 x y v u _ I2 r1 r2 q2) fun d s3 ⟨z, H3, I3, r3, k, e, q3⟩ => ?_)) hm
  subst e
  cases r3
  refine wpAny_truthy_bool ?_
  cases k with
  | false =>
    obtain ⟨k', e', q'⟩ := q3
    cases e'
    exact ite_ff ⟨H3, I3, q'⟩
  | true =>
    refine ite_tt (test_last (thn (hc pins s3 σ H3 _ I3 q3) fun w' s4 ⟨z', H4, I4, r4, q4⟩ => thn (ho' pins s4 σ H4 y z' u w' _ I4 r2 r4 q4) fun d' s5 ⟨z2, H5, I5, r5, k2, e2, q5⟩ => ?_))
    subst e2
    cases r5
    exact wpAny_truthy_bool ⟨H5, I5, q5⟩
noncomputable def TruV (K : PySem.W.Frag) (x : V) (H : Hp) (k : Bool) : Prop :=
  match x with
  | .non => k = false
  | .bl b => k = b
  | .int i => k = (i != 0)
  | .str y => y.length ≤ sizeLine ∧ k = ((y.length : Int) != 0)
  | .byt y => y.size ≤ sizeLine ∧ k = ((y.size : Int) != 0)
  | .ref p => (∃ xs, SqL K H p xs ∧ k = !xs.isEmpty) ∨ (∃ xs, SqT K H p xs ∧ k = !xs.isEmpty) ∨ ∃ kvs, H p = some (.dK kvs) ∧ k = !kvs.isEmpty
  | _ => False
theorem isEmpty_kv {κ : Type} {kvs : List (κ × V)} {vs : List (κ × Value)} (r : KV kvs vs) : (!vs.isEmpty) = !kvs.isEmpty := by
  cases r <;> rfl
theorem isEmpty_of {xs : List V} {its : List Value} (r : Vals xs its) : (!its.toArray.isEmpty) = !xs.isEmpty := by
  cases r <;> simp
theorem line63 : (sizeLine : Nat) < 2 ^ 63 := by rw [sizeLine_eq]; decide
theorem tru_ok : TruR X (fun x H Q => ∃ k, TruV X.K x H k ∧ Q k H) := by
  intro pins s σ H x v Q I rx h
  obtain ⟨k, e, q⟩ := h
  have hl := line63
  have hs : sizeLine = 16777216 := sizeLine_eq
  cases x with
  | non =>
    cases rx
    have e' : k = false := e
    subst e'
    exact truthy_none ⟨H, I, q⟩
  | bl b =>
    cases rx
    have e' : k = b := e
    subst e'
    exact wpAny_truthy_bool ⟨H, I, q⟩
  | int i =>
    obtain ⟨t, rfl⟩ := rx
    have e' : k = (i != 0) := e
    subst e'
    exact PySem.P.truthy_int ⟨H, I, q⟩
  | str y =>
    obtain ⟨t, rfl⟩ := rx
    obtain ⟨hy, e'⟩ : y.length ≤ sizeLine ∧ k = ((y.length : Int) != 0) := e
    subst e'
    exact PySem.P.truthy_str (by omega) ⟨H, I.tok _, q⟩
  | byt y =>
    obtain ⟨t, rfl⟩ := rx
    obtain ⟨hy, e'⟩ : y.size ≤ sizeLine ∧ k = ((y.size : Int) != 0) := e
    subst e'
    exact PySem.W.truthy_bytes (by omega) ⟨H, I.tok _, q⟩
  | ref p =>
    cases rx
    have e' : (∃ xs, SqL X.K H p xs ∧ k = !xs.isEmpty) ∨ (∃ xs, SqT X.K H p xs ∧ k = !xs.isEmpty) ∨ ∃ kvs, H p = some (.dK kvs) ∧ k = !kvs.isEmpty := e
    rcases e' with ⟨xs, hx, e'⟩ | ⟨xs, hx, e'⟩ | ⟨kvs, hx, e'⟩
    · subst e'
      obtain ⟨its, r, pl, hz⟩ := I.list hx
      have hlen := r.length
      exact wpAny_truthy_list pl.isList (by simp only [List.size_toArray]; omega) ⟨H, I.tok _, by rw [isEmpty_of r]; exact q⟩
    · subst e'
      obtain ⟨its, r, pl, hz⟩ := I.tuple hx
      have hlen := r.length
      exact truthy_tuple pl (by simp only [List.size_toArray]; omega) ⟨H, I.tok _, by rw [isEmpty_of r]; exact q⟩
    · subst e'
      obtain ⟨hz, hS, vs, r, m⟩ : kvs.length ≤ sizeLine ∧ (p == sysModules) = false ∧ ∃ vs, KV kvs vs ∧ s.heap.DictOf (mixKind X.prog X.w) p vs := I.hok p _ hx
      have hlen : kvs.length = vs.length := Paired.length r
      exact wpAny_truthy_dict hS m (by omega) ⟨H, I.tok _, by rw [isEmpty_kv r]; exact q⟩
  | _ => exact (show False from e).elim
theorem pt_truth (ha : PE X a ta) (he : ∀ whole, isTrue a X.env whole = (do let v ← whole; standAt a.pos; holding [v] (truthy v))) :
    PT X a (fun σ H Q => ta σ H fun x H' => ∃ k, TruV X.K x H' k ∧ Q k H') := by
  intro pins s σ H Q I h
  exact isTrue_plain (thn (ha pins s σ H _ I h) fun v s1 ⟨x, H1, I1, r1, q1⟩ => tru_ok pins s1 σ H1 x v Q I1 r1 q1) (he _)
theorem op_add_str : OpR X (binaryOp .Add) (fun x y H Q => ∃ i j, x = .str i ∧ y = .str j ∧ i.length + j.length ≤ sizeLine ∧ Q (.str (i ++ j)) H) := by
  intro pins s σ H x y v u Q I rx ry h
  obtain ⟨i, j, rfl, rfl, hz, q⟩ := h
  obtain ⟨t, rfl⟩ := rx
  obtain ⟨t', rfl⟩ := ry
  exact add_str (fun t' tk => ⟨.str (i ++ j), H, I.tok _, ⟨_, rfl⟩, q⟩) hz
theorem vals1 {x : V} {us : List Value} (r : Vals [x] us) : ∃ u, us = [u] ∧ RelV x u := by
  cases r with
  | cons r1 r2 => cases r2; exact ⟨_, rfl, r1⟩
theorem vals2 {x y : V} {us : List Value} (r : Vals [x, y] us) : ∃ u w', us = [u, w'] ∧ RelV x u ∧ RelV y w' := by
  cases r with
  | cons r1 r2 =>
    cases r2 with
    | cons r3 r4 => cases r4; exact ⟨_, _, rfl, r1, r3⟩
theorem call_abs : CallR X (.builtin "abs") (fun xs H Q => ∃ i, xs = [.int i] ∧ Q (.int (if i < 0 then -i else i)) H) := by
  intro pins s σ H xs us Q I r h
  obtain ⟨i, rfl, q⟩ := h
  obtain ⟨u, rfl, t, rfl⟩ := vals1 r
  exact call_abs_int fun u tk => ⟨.int (if i < 0 then -i else i), H, I.tok _, ⟨_, rfl⟩, q⟩
theorem call_max2 (hc : X.calm = true) : CallR X (.builtin "max") (fun xs H Q => ∃ i j, xs = [.int i, .int j] ∧ Q (.int (if j > i then j else i)) H) := by
  intro pins s σ H xs us Q I r h
  obtain ⟨i, j, rfl, q⟩ := h
  obtain ⟨u, w', rfl, ⟨t, rfl⟩, ⟨t', rfl⟩⟩ := vals2 r
  refine max_two_ints (I.ok.hd hc) fun h' tk k => ⟨_, H, I.kept k, ?_, q⟩
  by_cases hj : j > i
  · rw [if_pos hj, if_pos hj]; exact ⟨_, rfl⟩
  · rw [if_neg hj, if_neg hj]; exact ⟨_, rfl⟩
theorem call_min2 (hc : X.calm = true) : CallR X (.builtin "min") (fun xs H Q => ∃ i j, xs = [.int i, .int j] ∧ Q (.int (if j < i then j else i)) H) := by
  intro pins s σ H xs us Q I r h
  obtain ⟨i, j, rfl, q⟩ := h
  obtain ⟨u, w', rfl, ⟨t, rfl⟩, ⟨t', rfl⟩⟩ := vals2 r
  refine min_two_ints (I.ok.hd hc) fun h' tk k => ⟨_, H, I.kept k, ?_, q⟩
  by_cases hj : j < i
  · rw [if_pos hj, if_pos hj]; exact ⟨_, rfl⟩
  · rw [if_neg hj, if_neg hj]; exact ⟨_, rfl⟩
theorem call_int1 : CallR X (.type "int") (fun xs H Q => (∃ i, xs = [.int i] ∧ Q (.int i) H) ∨ ∃ k, xs = [.bl k] ∧ Q (.int (if k then 1 else 0)) H) := by
  intro pins s σ H xs us Q I r h
  rcases h with ⟨i, rfl, q⟩ | ⟨k, rfl, q⟩
  · obtain ⟨u, rfl, t, rfl⟩ := vals1 r
    exact call_int_int ⟨.int i, H, I, ⟨_, rfl⟩, q⟩
  · obtain ⟨u, rfl, r1⟩ := vals1 r
    cases r1
    exact call_int_bool ⟨.int (if k then 1 else 0), H, I.tok _, ⟨_, rfl⟩, q⟩
end
end L2
namespace L2
open PySem PySem.Spec PyProof.Rows
structure ObjM (h : Heap) (x dx C : Addr) (mA : Str → Option Value) : Prop where
  obj : h.get? x = some (PySem.W.instObj C dx)
  ns : h.Ns1 dx mA
  ne : dx ≠ x
section
variable {prog : Program} {w : World} {A : Around} {E : Value → Shared → Prop} {s : Shared} {K : PySem.W.Frag} {x dx C f : Addr} {mA : Str → Option Value} {name : Str} {v : Value}
end
section
variable {P : Program} {w : World} {H H' : Hp} {h h' : Heap} {a C dx : Addr} {fs fs' : List (Str × V)}
end
structure Cls (K : PySem.W.Frag) (C : Addr) : Prop where
  pg : PySem.W.plainGet K C Str.empty = true
  hd : PySem.W.hasDictIn K C = true
  po : PySem.W.plainOver K C = true
  sa : PySem.W.findIn K (.ref C) "__setattr__" = some (some (.builtin "object.__setattr__"))
structure Con (K : PySem.W.Frag) (C : Addr) (f : Str) (v : V) (u : Value) : Prop where
  at_ : PySem.W.findIn K (.ref C) f = some (some u)
  rel : RelV v u
  get : PySem.W.specialIn K u "__get__" = some none
  cp : PySem.W.copiedNames.contains f = false
structure Meth (K : PySem.W.Frag) (C : Addr) (m : Str) (f : Addr) : Prop where
  at_ : PySem.W.findIn K (.ref C) m = some (some (.ref f))
  fn : PySem.W.isFn K (.ref f) = true
  kp : PySem.W.keepIn K (.ref f) = true
section
variable {X : Cx} {pins : List (Addr × Obj)} {σ : St} {H : Hp} {s : Shared} {a C dx : Addr} {fs : List (Str × V)} {f : Str} {v : V} {A : Around} {E : Value → Shared → Prop}
end
section
variable {X : Cx} {o e value : Expr} {f : Str} {pos pos' tpos : Pos} {ta tv : TE}
end
section
variable {X : Cx} {pins : List (Addr × Obj)} {σ : St} {H : Hp} {s : Shared} {A : Around} {E : Value → Shared → Prop} {Q : Value → Shared → Prop} {c : Value} {b : Bool}
inductive TyOf (K : PySem.W.Frag) (H : Hp) : V → Value → Prop where
  | non : TyOf K H .non (.type "NoneType")
  | bl (x : Bool) : TyOf K H (.bl x) (.type "bool")
  | int (i : Int) : TyOf K H (.int i) (.type "int")
  | str (x : Str) : TyOf K H (.str x) (.type "str")
  | flt (x : UInt64) : TyOf K H (.flt x) (.type "float")
  | lst {a : Addr} {xs : List V} (e : H a = some (.lst xs)) : TyOf K H (.ref a) (.type "list")
  | frz {a : Addr} {o : Obj} {xs : List V} (e : H a = some (.frz o (.lst xs))) : TyOf K H (.ref a) (.type "list")
  | tup {a : Addr} {xs : List V} (e : H a = some (.tup xs)) : TyOf K H (.ref a) (.type "tuple")
  | dK {a : Addr} {kvs : List (Key × V)} (e : H a = some (.dK kvs)) : TyOf K H (.ref a) (.type "dict")
  | dT {a : Addr} {kvs : List (List Key × V)} (e : H a = some (.dT kvs)) : TyOf K H (.ref a) (.type "dict")
  | ins {a C dx : Addr} {fs : List (Str × V)} (e : H a = some (.ins C dx fs)) (cl : Cls K C) (ha : PySem.W.findIn K (.ref C) "__class__" = some (some (.builtin "object.__class__")))
      (hn : PySem.W.specialIn K (.builtin "object.__class__") "__get__" = some (some (.builtin "getset_descriptor.__get__"))) (htk : PySem.W.takesIn K (.builtin "object.__class__") = some true)
      (hm : PySem.W.mroIn K C (.type "object") = some true) : TyOf K H (.ref a) (.ref C)
end
end L2
namespace L2
open PySem PySem.Spec PyProof.Rows
structure Room (k : Nat) (A : Around) : Prop where
  hd : A.handled = none
  dp : A.depth + 3 * k + 5 < recursionLimit
  un : A.units + 16 * k + 200 < cLine
  gd : A.guards = some []
theorem Room.deeper {k : Nat} {A : Around} (r : Room (k + 1) A) (env : Env) : Room k (A.deeper env) :=
  ⟨r.hd, by have := r.dp; show A.depth + 1 + 3 * k + 5 < _; omega, by have := r.un; show A.units + 3 + 16 * k + 200 < _; omega, by first | exact r.gd | (simp [Around.deeper]; exact r.gd)⟩
theorem Room.depth {k : Nat} {A : Around} (r : Room k A) : A.depth < recursionLimit := by have := r.dp; omega
theorem Room.units {k : Nat} {A : Around} (r : Room k A) : A.units + 64 < cLine := by have := r.un; omega
noncomputable def tNil : TA := fun _ H Q => Q [] H
noncomputable def tCons (ta : TE) (tr : TA) : TA := fun σ H Q => ta σ H fun x H1 => tr σ H1 fun xs H2 => Q (x :: xs) H2
section
variable {X : Cx} {e : Expr} {es : List Expr} {te : TE} {t : TA} {pos : Pos}
theorem pa_nil : PA X [] tNil := fun _ _ _ _ H Q I h => Calls.spliced_nil ⟨[], H, I, .nil, h⟩
theorem pa_cons (ha : PE X e te) (hr : PA X es t) (hs : starEach (e :: es) X.env = (false, eval e X.env) :: starEach es X.env := by rfl) : PA X (e :: es) (tCons te t) := by
  intro pos pins s σ H Q I h
  rw [hs]
  show wpAny _ _ (spliced ((false, eval e X.env) :: backTo pos (starEach es X.env))) _ _ s
  refine Calls.spliced_cons (thn (ha pins s σ H _ I h) fun u s1 ⟨x, H1, I1, r1, q1⟩ => ?_)
  exact thn (hr pos pins s1 σ H1 _ I1 q1) fun us s2 ⟨xs, H2, I2, r2, q2⟩ => ⟨x :: xs, H2, I2, .cons r1 r2, q2⟩
noncomputable def tTup (t : TA) : TE := fun σ H Q => t σ H fun xs H1 => xs.length ≤ sizeLine ∧ ∀ p, H1 p = none → Q (.ref p) (upd H1 p (.tup xs))
noncomputable def tLst (t : TA) : TE := fun σ H Q => t σ H fun xs H1 => xs.length ≤ sizeLine ∧ ∀ p, H1 p = none → Q (.ref p) (upd H1 p (.lst xs))
theorem pe_tup {x1} (h : PA X es t) : PE X (.Tuple es x1 pos) (tTup t) := by
  intro pins s σ H Q I hq
  refine wpAny_Tuple_spliced (thn (h pos pins s σ H _ I hq) fun us s1 ⟨xs, H1, I1, r, z, q⟩ => ⟨by rw [← r.length]; exact z, ?_⟩)
  have hf : H1 s1.heap.objs.size = none := I1.hok.fresh (Nat.le_refl _)
  refine ⟨.ref s1.heap.objs.size, upd H1 s1.heap.objs.size (.tup xs), I1.laid (t' := s1.toks) (fun b u e => Heap.get?_push_of_some _ e) (Nat.le_refl _) ?_, rfl, q _ hf⟩
  exact ⟨z, us, r, ⟨_, Heap.get?_push_size _ rfl, rfl, _, rfl⟩⟩
theorem pe_lst (h : PA X es t) : PE X (.List es pos) (tLst t) := by
  intro pins s σ H Q I hq
  refine wpAny_List_spliced (thn (h pos pins s σ H _ I hq) fun us s1 ⟨xs, H1, I1, r, z, q⟩ => ⟨by rw [← r.length]; exact z, ?_⟩)
  have hf : H1 s1.heap.objs.size = none := I1.hok.fresh (Nat.le_refl _)
  refine ⟨.ref s1.heap.objs.size, upd H1 s1.heap.objs.size (.lst xs), I1.laid (t' := s1.toks) (fun b u e => Heap.get?_push_of_some _ e) (Nat.le_refl _) ?_, rfl, q _ hf⟩
  exact ⟨z, us, 0, r, Heap.get?_push_size _ rfl⟩
end
noncomputable abbrev Sp := List V → Hp → VK → XK → Prop
noncomputable abbrev CXT := List Env → Hp → Shared → XK → Value → Shared → Prop
structure Env0 (P : Program) (w : World) (K : PySem.W.Frag) (mg : Str → Option Value) (base : Heap) (A : Around) (outer : List Env) (s : Shared) (H : Hp) : Prop where
  frames : A.frames = some outer
  mod : Mod K mg base
  bs : ∀ b o, base.get? b = some o → s.heap.get? b = some o ∧ H b = none
  bsz : base.objs.size ≤ s.heap.objs.size
  funs : s.heap.FunFrames base outer
  frf : ∀ b ∈ frs outer, H b = none
  hok : HOk P w H s.heap
  bare : AllBare s.gens
noncomputable def CE (outer : List Env) (P : Program) (w : World) (H : Hp) (s : Shared) (Q : VK) (u : Value) (s' : Shared) : Prop :=
  ∃ v H', s'.os = s.os ∧ AllBare s'.gens ∧ Un (frs outer) [] H H' s.heap s'.heap ∧ HOk P w H' s'.heap ∧ RelV v u ∧ Q v H'
noncomputable def CR (CX : CXT) (outer : List Env) (P : Program) (w : World) (H : Hp) (s : Shared) (Q : VK) (E : XK) (r : Result) (s' : Shared) : Prop :=
  match r with
  | .ok (.ret u) => CE outer P w H s Q u s'
  | .ok _ => False
  | .error e => CX outer H s E e s'
structure FnOk (P : Program) (w : World) (K : PySem.W.Frag) (mg : Str → Option Value) (base : Heap) (CX : CXT) (k : Nat) (f : Addr) (fd : FuncData) (ps : List Str) (sp : Sp) : Prop where
  len : ∀ vs H Q E, sp vs H Q E → vs.length = ps.length
  run : ∀ (A : Around) (outer : List Env) (s : Shared) (H : Hp) (args : Args) (us : List Value) (vs : List V) (Q : VK) (E : XK), Room k A → Env0 P w K mg base A outer s H → BindsTo s fd args (ps.zip us) → Vals vs us → sp vs H Q E →
    codeAny (model P w) A (.call (.ref f) args) (CR CX outer P w H s Q E) s
theorem FnOk.imp {P : Program} {w : World} {K : PySem.W.Frag} {mg : Str → Option Value} {base : Heap} {CX : CXT} {k : Nat} {f : Addr} {fd : FuncData} {ps : List Str} {sp sp' : Sp} (F : FnOk P w K mg base CX k f fd ps sp)
    (h : ∀ vs H Q E, sp' vs H Q E → sp vs H Q E) : FnOk P w K mg base CX k f fd ps sp' :=
  ⟨fun vs H Q E q => F.len vs H Q E (h _ _ _ _ q), fun A outer s H args us vs Q E hr he hb hv hs => F.run A outer s H args us vs Q E hr he hb hv (h _ _ _ _ hs)⟩
section
variable {X : Cx} {pins : List (Addr × Obj)} {σ : St} {H : Hp} {s s' : Shared}
theorem Inv.env0 (I : Inv X pins σ H s) : Env0 X.prog X.w X.K X.mg X.base X.A X.stack s H :=
  ⟨I.ok.frames, I.ok.mod, I.bs, Nat.le_trans I.ok.bsz I.sz, I.stack, I.stkFree, I.hok, I.bare⟩
theorem Inv.after {Q : VK} {u : Value} (I : Inv X pins σ H s) (h : CE X.stack X.prog X.w H s Q u s') : EP X pins σ Q u s' := by
  obtain ⟨v, H', os, bare, un, hok, r, q⟩ := h
  obtain ⟨hh, g, d, t, os'⟩ := s'
  obtain rfl : os' = s.os := os
  exact ⟨v, H', I.call (h' := hh) (g' := g) (d' := d) (t' := t) (ch := []) un hok bare (fun b z => absurd z (by simp)), r, q⟩
end
noncomputable def tCall (sp : Sp) (dvs : List V) (E : XK) (t : TA) : TE := fun σ H Q => t σ H fun vs H1 => sp (vs ++ dvs) H1 Q E
noncomputable def Binds (K : PySem.W.Frag) (fd : FuncData) (ps : List Str) (ds : List Value) : Prop :=
  ∀ (s : Shared) (us : List Value), K.In s.heap → (us ++ ds).length = ps.length → BindsTo s fd ⟨us, []⟩ (ps.zip (us ++ ds))
theorem Binds.all {K : PySem.W.Frag} {fd : FuncData} {ps : List Str} (h : ∀ us : List Value, us.length = ps.length → bindArgs fd ⟨us, []⟩ = pure (ps.zip us)) : Binds K fd ps [] := fun s us _ hl => by
  rw [List.append_nil] at hl ⊢
  exact .of_eq (h us hl)
noncomputable def Passes (CX : CXT) (X : Cx) (E : XK) : Prop := ∀ (pins : List (Addr × Obj)) (σ : St) (H : Hp) (s : Shared) (e : Value) (s' : Shared), Inv X pins σ H s → CX X.stack H s E e s' → X.xe e s'
section
variable {X : Cx} {CX : CXT} {k : Nat} {f C : Addr} {fd : FuncData} {ps : List Str} {sp : Sp} {dvs : List V} {ds : List Value} {E : XK} {x m : Str} {p pos apos : Pos} {e o : Expr} {es : List Expr} {ta : TE} {t : TA}
theorem run_fn {pins : List (Addr × Obj)} {σ : St} {H : Hp} {s : Shared} {Q : VK} {us : List Value} {vs : List V} (F : FnOk X.prog X.w X.K X.mg X.base CX k f fd ps sp) (hr : Room k X.A) (hb : Binds X.K fd ps ds) (hd : Vals dvs ds) (hx : Passes CX X E)
    (I : Inv X pins σ H s) (r : Vals vs us) (h : sp (vs ++ dvs) H Q E) : wpAny (model X.prog X.w) X.A (call (.ref f) us) (EP X pins σ Q) X.xe s := by
  have r2 : Vals (vs ++ dvs) (us ++ ds) := r.append hd
  have hl : (us ++ ds).length = ps.length := by rw [← r2.length]; exact F.len _ _ _ _ h
  refine wpAny_call (codeAny_mono (F.run X.A X.stack s H ⟨us, []⟩ (us ++ ds) (vs ++ dvs) Q E hr I.env0 (hb s us I.kIn hl) r2 h) fun r s' hq => ?_)
  cases r with
  | error e => exact hx pins σ H s e s' I hq
  | ok fl =>
    cases fl with
    | ret u => exact I.after hq
    | next => exact False.elim hq
    | brk => exact False.elim hq
    | cont => exact False.elim hq
theorem pe_call (F : FnOk X.prog X.w X.K X.mg X.base CX k f fd ps sp) (hr : Room k X.A) (hg : Gl X x) (hm : X.mg x = some (.ref f)) (hk : PySem.W.keepIn X.K (.ref f) = true) (hb : Binds X.K fd ps ds) (hd : Vals dvs ds) (hx : Passes CX X E)
    (ha : PA X (e :: es) t) (hdb : (x == ("__debug__" : Str)) = false := by decide) (he : starEach (e :: es) X.env = (false, eval e X.env) :: starEach es X.env := by rfl) (hpl : (backTo pos (starEach es X.env)).any (·.1) = false := by rfl) :
    PE X (.Call (.Name x p) (e :: es) [] pos) (tCall sp dvs E t) := by
  intro pins s σ H Q I h
  refine wpAny_Call_Name_kw (ld_glob I hg hm ?_ hdb)
  refine PySem.W.callWith_K (h₀ := X.base) I.ok.mod.kin hk (thn (ha pos pins s σ H _ I h) fun us s1 ⟨vs, H1, I1, r, q⟩ => ⟨I1.kIn, ?_⟩) he hpl
  exact run_fn F hr hb hd hx I1 r q
structure Mk (K : PySem.W.Frag) (C f : Addr) : Prop where
  makes : PySem.W.makesIn K C = true
  init : PySem.W.findIn K (.ref C) "__init__" = some (some (.ref f))
  fn : PySem.W.isFn K (.ref f) = true
  kp : PySem.W.keepIn K (.ref C) = true
end
section
variable {X : Cx} {CX : CXT} {k : Nat} {f C : Addr} {fd : FuncData} {ps ks : List Str} {sp : Sp} {E : XK} {x m : Str} {p pos apos kpos : Pos} {e o : Expr} {es : List Expr} {kws : List Keyword} {te ta : TE} {t tk : TA} {nm : Option Str}
structure KBinds (K : PySem.W.Frag) (fd : FuncData) (ps ks : List Str) (g : List Value → List Value → List Value) (gV : List V → List V → List V) : Prop where
  to : ∀ (s : Shared) (us ws : List Value), K.In s.heap → (g us ws).length = ps.length → BindsTo s fd ⟨us, ks.zip ws⟩ (ps.zip (g us ws))
  rel : ∀ {vs : List V} {us : List Value} {zs : List V} {ws : List Value}, Vals vs us → Vals zs ws → Vals (gV vs zs) (g us ws)
variable {g : List Value → List Value → List Value} {gV : List V → List V → List V}
end
structure FnScope (N P : List Str) (sc : Scope) : Prop where
  kind : sc.kind = .function
  co : sc.isCoroutine = false
  gen : sc.isGenerator = false
  nd : N.Nodup
  pre : N.take P.length = P
  par : ∀ x ∈ P, sc.names.lookup x = some .local ∨ sc.names.lookup x = some .cell
  nofree : ∀ y ∈ sc.names, y.2 ≠ .free
theorem bindL_out {kindOf : Str → Option NameKind} {x : Str} : ∀ {binds : List (Str × Value)} {m : Str → Option Value}, (∀ v, (x, v) ∉ binds) → bindL kindOf binds m x = m x
  | [], _, _ => rfl
  | (n, v) :: r, m, h => by
    unfold bindL
    rw [bindL_out fun w hw => h w (List.mem_cons_of_mem _ hw)]
    split
    · have : x ≠ n := by rintro rfl; exact h v List.mem_cons_self
      simp [this]
    · rfl
theorem bindC_out {kindOf : Str → Option NameKind} {x : Str} : ∀ {binds : List (Str × Value)} {m : Str → Option Value}, (∀ v, (x, v) ∉ binds) → bindC kindOf binds m x = m x
  | [], _, _ => rfl
  | (n, v) :: r, m, h => by
    unfold bindC
    rw [bindC_out fun w hw => h w (List.mem_cons_of_mem _ hw)]
    split
    · rfl
    · have : x ≠ n := by rintro rfl; exact h v List.mem_cons_self
      simp [this]
theorem bindL_get {kindOf : Str → Option NameKind} {x : Str} {v : Value} : ∀ {P : List Str} {vs : List Value} {i : Nat} {m : Str → Option Value}, P.Nodup → P[i]? = some x → vs[i]? = some v → kindOf x = some .local →
    bindL kindOf (P.zip vs) m x = some v
  | [], _, _, _, _, h, _, _ => by simp at h
  | _ :: _, [], _, _, _, _, h, _ => by simp at h
  | p :: P, w :: vs, 0, m, nd, h1, h2, hk => by
    simp at h1 h2; subst h1; subst h2
    show bindL kindOf ((p, w) :: P.zip vs) m p = _
    unfold bindL
    rw [bindL_out fun v hv => (List.nodup_cons.mp nd).1 (List.of_mem_zip hv).1, if_pos hk]
    simp
  | p :: P, w :: vs, i + 1, m, nd, h1, h2, hk => by
    show bindL kindOf ((p, w) :: P.zip vs) m x = _
    unfold bindL
    exact bindL_get (i := i) (List.nodup_cons.mp nd).2 (by simpa using h1) (by simpa using h2) hk
theorem bindC_get {kindOf : Str → Option NameKind} {x : Str} {v : Value} : ∀ {P : List Str} {vs : List Value} {i : Nat} {m : Str → Option Value}, P.Nodup → P[i]? = some x → vs[i]? = some v → kindOf x ≠ some .local →
    bindC kindOf (P.zip vs) m x = some v
  | [], _, _, _, _, h, _, _ => by simp at h
  | _ :: _, [], _, _, _, _, h, _ => by simp at h
  | p :: P, w :: vs, 0, m, nd, h1, h2, hk => by
    simp at h1 h2; subst h1; subst h2
    show bindC kindOf ((p, w) :: P.zip vs) m p = _
    unfold bindC
    rw [bindC_out fun v hv => (List.nodup_cons.mp nd).1 (List.of_mem_zip hv).1, if_neg hk]
    simp
  | p :: P, w :: vs, i + 1, m, nd, h1, h2, hk => by
    show bindC kindOf ((p, w) :: P.zip vs) m x = _
    unfold bindC
    exact bindC_get (i := i) (List.nodup_cons.mp nd).2 (by simpa using h1) (by simpa using h2) hk
noncomputable def start (N : List Str) (vs : List V) : St := vs.map some ++ List.replicate (N.length - vs.length) none
noncomputable def cxOf (CX : CXT) (P : Program) (w : World) (K : PySem.W.Frag) (mg : Str → Option Value) (base : Heap) (N : List Str) (qual : Str) (scope : Scope) (f : Addr) (cd : Value) (A : Around) (outer : List Env) (s : Shared) (H : Hp) (E : XK) : Cx where
  prog := P
  w := w
  K := K
  mg := mg
  base := base
  A := A.deeper (envOfC qual scope s.heap.objs.size f cd)
  N := N
  s₀ := s
  H₀ := H
  env := envOfC qual scope s.heap.objs.size f cd
  outer := outer
  stack := envOfC qual scope s.heap.objs.size f cd :: outer
  ex := []
  calm := true
  fn := fun _ => true
  pn := []
  xe := fun e s' => wpAny (model P w) (A.deeper (envOfC qual scope s.heap.objs.size f cd)) (leaving (envOfC qual scope s.heap.objs.size f cd) e) (fun _ s'' => CX outer H s E e s'') (fun e' s'' => CX outer H s E e' s'') s'
theorem cell_has {sc : Scope} {n : Nat} {x : Str} (h : sc.names.lookup x = some .cell) : ∃ c, (cellsFrom n sc.names []).lookup x = some c := by
  have q := PySem.W.cellsFrom_some sc.names n [] (.inl h)
  exact Option.isSome_iff_exists.mp q
theorem inv_start {CX : CXT} {P : Program} {w : World} {K : PySem.W.Frag} {mg : Str → Option Value} {base : Heap} {N ps : List Str} {qual : Str} {scope : Scope} {f : Addr} {cd : Value} {A : Around} {outer : List Env} {s s1 : Shared} {H : Hp} {E : XK} {us : List Value} {vs : List V}
    (S : FnScope N ps scope) (hd : A.handled = none) (e0 : Env0 P w K mg base A outer s H) (hl : vs.length = ps.length) (r : Vals vs us)
    (x : InCallC s s.heap.objs.size (bindL (envOfC qual scope s.heap.objs.size f cd).kindOf (ps.zip us) fun _ => none) (cellsFrom (s.heap.objs.size + 1) scope.names []) (bindC (envOfC qual scope s.heap.objs.size f cd).kindOf (ps.zip us) fun _ => none) s1) :
    Inv (cxOf CX P w K mg base N qual scope f cd A outer s H E) [] (start N vs) H s1 := by
  have hpl : ps.length ≤ N.length := by have := congrArg List.length S.pre; rw [List.length_take] at this; omega
  obtain ⟨h1, tk, rfl, hk⟩ := x.done
  have noA : ∀ b : Addr, b ∉ (cxOf CX P w K mg base N qual scope f cd A outer s H E).ex := fun b z => absurd (show b ∈ ([] : List Addr) from z) (by simp)
  refine ⟨⟨e0.mod, S.kind, rfl, rfl, Nat.le_refl _, fun y z c h1 h2 => ?_, fun y hy => ?_, fun y c _ h => ?_, fun _ => hd, Around.frames_deeper e0.frames, .inr ⟨rfl, rfl⟩, fun b z => absurd z (noA b), e0.bs, e0.bsz, fun b _ _ => noA b, fun b z => absurd z (noA b), e0.funs, e0.frf⟩,
    rfl, e0.bare, Un.kept hk, ⟨_, x.toInCall.ns, fun i y v h1 h2 h3 => ?_⟩, fun y c h => ⟨_, x.cell y c h⟩, e0.hok.fresh (Nat.le_refl _), fun y c h => ?_, fun p hp => absurd (show p ∈ ([] : List (Addr × Obj)) from hp) (by simp), e0.hok.kept hk, ?_⟩
  · exact name_of_addr x.apart (PySem.mem_of_lookup h1) (PySem.mem_of_lookup h2)
  · have hy : scope.names.lookup y = some .cell ∨ scope.names.lookup y = some .free := hy
    rcases hy with hy | hy
    · exact cell_has hy
    · exact absurd rfl (S.nofree _ (PySem.mem_of_lookup hy))
  · exact Nat.le_of_lt (x.above y c (PySem.mem_of_lookup h))
  · have hi : i < vs.length := by
      unfold start at h2
      by_cases hi : i < vs.length
      · exact hi
      · rw [List.getElem?_append_right (by simpa using hi)] at h2
        rw [List.getElem?_replicate] at h2
        split at h2 <;> cases h2
    have ha : vs[i]? = some v := by
      unfold start at h2
      rw [List.getElem?_append_left (by simpa using hi), List.getElem?_map] at h2
      cases e : vs[i]? with
      | none => rw [e] at h2; cases h2
      | some a => rw [e] at h2; cases h2; rfl
    obtain ⟨u, hu, rv⟩ := r.get ha
    have hp : ps[i]? = some y := by
      rw [← S.pre, List.getElem?_take_of_lt (by omega)]; exact h1
    have ndP : ps.Nodup := by rw [← S.pre]; exact S.nd.sublist (List.take_sublist _ _)
    refine ⟨u, rv, ?_⟩
    rcases S.par y (List.mem_of_getElem? hp) with k | k
    · exact .inl ⟨k, bindL_get ndP hp hu k⟩
    · obtain ⟨c, e⟩ := cell_has (n := s.heap.objs.size + 1) k
      refine .inr ⟨.inl k, c, e, ?_⟩
      have q := x.cell y c e
      rw [bindC_get ndP hp hu (by show scope.names.lookup y ≠ _; rw [k]; decide)] at q
      exact q
  · exact e0.hok.fresh (Nat.le_of_lt (x.above y c (PySem.mem_of_lookup h)))
  · unfold start
    show _ = N.length
    rw [List.length_append, List.length_map, List.length_replicate]
    omega
theorem fn_of {CX : CXT} {P : Program} {w : World} {K : PySem.W.Frag} {mg : Str → Option Value} {base : Heap} {k : Nat} {f : Addr} {name qual : Str} {params : Arguments} {body : List Stmt} {scope : Scope} {dV kV doc pm cdv ct oc : Value} {an od : Option Addr}
    {osl : Array (Option Value)} {N ps : List Str} {sp : Sp} (lk : K.lookup f = some ⟨oc, od, .func (PySem.W.fnOf name qual params body scope dV kV doc pm an cdv ct), osl⟩) (hcd : PySem.W.codeIn K cdv qual = true) (S : FnScope N ps scope)
    (len : ∀ vs H Q E, sp vs H Q E → vs.length = ps.length)
    (hbody : ∀ (A : Around) (outer : List Env) (s : Shared) (H : Hp) (vs : List V) (Q : VK) (E : XK), Room k (A.deeper (envOfC qual scope s.heap.objs.size f cdv)) → sp vs H Q E →
      ∃ t, PSs (cxOf CX P w K mg base N qual scope f cdv A outer s H E) body t ∧ t { nx := fun _ H' => Q .non H', rt := Q } (start N vs) H) :
    FnOk P w K mg base CX (k + 1) f (PySem.W.fnOf name qual params body scope dV kV doc pm an cdv ct) ps sp := by
  refine ⟨len, fun A outer s H args us vs Q E hr e0 hb r hsp => ?_⟩
  have hl := len _ _ _ _ hsp
  have KX : K.In s.heap := e0.mod.kin.keeps fun b o e => (e0.bs b o e).1
  have lim : s.heap.NoLimit := e0.mod.nolimit.keeps fun b o e => (e0.bs b o e).1
  have hkind : ∀ y ∈ ps.zip us, scope.names.lookup y.1 = some .local ∨ (scope.names.lookup y.1 = some .cell ∧ ((cellsFrom (s.heap.objs.size + 1) scope.names []).lookup y.1).isSome = true) := fun ⟨n, v⟩ hy => by
    rcases S.par n (List.of_mem_zip hy).1 with q | q
    · exact .inl q
    · exact .inr ⟨q, PySem.W.cellsFrom_some _ _ _ (.inl q)⟩
  refine codeAny_call_function hr.depth (KX _ _ lk) rfl S.co S.gen rfl (PySem.W.codeRec_of KX hcd) (hb _ _ _ _ ?_)
  refine wpAny_newFunctionEnv_cells S.kind hkind fun env he s1 x => ?_
  subst he
  refine ⟨lim.keeps x.toInCall.keep, codeAny_func ?_⟩
  obtain ⟨t, ht, hq⟩ := hbody A outer s H vs Q E (hr.deeper _) hsp
  have I : Inv (cxOf CX P w K mg base N qual scope f cdv A outer s H E) [] (start N vs) H s1 := inv_start S hr.hd e0 hl r x
  refine wpAny_mono (ht [] s1 (start N vs) H _ I hq) (fun fl s' hs => ?_) fun e s' hs => hs
  have fin : ∀ {σ' : St} {H' : Hp} {v : V} {u : Value}, Inv (cxOf CX P w K mg base N qual scope f cdv A outer s H E) [] σ' H' s' → RelV v u → Q v H' → CE outer P w H s Q u s' :=
    fun {σ' H' v u} J rv q => ⟨v, H', J.os, J.bare, J.base, J.hok, rv, q⟩
  cases fl with
  | ret u =>
    obtain ⟨v, σ', H', J, rv, q⟩ := hs
    exact fin J rv q
  | next =>
    obtain ⟨σ', H', J, q⟩ := hs
    exact fin (v := V.non) (u := Value.none) J rfl q
  | brk =>
    obtain ⟨_, _, _, q⟩ := hs
    exact False.elim q
  | cont =>
    obtain ⟨_, _, _, q⟩ := hs
    exact False.elim q
end L2
namespace L2
open PySem PySem.Spec PyProof.Rows
section
variable {X : Cx} {x : Str} {p pos : Pos} {e : Expr} {es : List Expr} {t : TA} {id T : String} {r : List V → Hp → VK → Prop}
noncomputable def tCB (r : List V → Hp → VK → Prop) (t : TA) : TE := fun σ H Q => t σ H fun vs H1 => r vs H1 Q
theorem pe_callB (hc : CallR X (.builtin id) r) (hg : Gl X x) (hm : X.mg x = none) (hv : bootBuiltins x = some (.builtin id)) (ha : PA X (e :: es) t) (hn : x ≠ "__name__" := by decide) (hdb : (x == ("__debug__" : Str)) = false := by decide)
    (he : starEach (e :: es) X.env = (false, eval e X.env) :: starEach es X.env := by rfl) (hpl : (backTo pos (starEach es X.env)).any (·.1) = false := by rfl) : PE X (.Call (.Name x p) (e :: es) [] pos) (tCB r t) := by
  intro pins s σ H Q I h
  refine wpAny_Call_Name_kw (ld_blt I hg hm hv ?_ hn hdb)
  exact PyProof.Rows.callWith_builtin1 (thn (ha pos pins s σ H _ I h) fun us s1 ⟨vs, H1, I1, r1, q1⟩ => hc pins s1 σ H1 vs us Q I1 r1 q1) he hpl
theorem pe_callTy (hc : CallR X (.type T) r) (hg : Gl X x) (hm : X.mg x = none) (hv : bootBuiltins x = some (.type T)) (ha : PA X (e :: es) t) (hn : x ≠ "__name__" := by decide) (hdb : (x == ("__debug__" : Str)) = false := by decide)
    (he : starEach (e :: es) X.env = (false, eval e X.env) :: starEach es X.env := by rfl) (hpl : (backTo pos (starEach es X.env)).any (·.1) = false := by rfl) : PE X (.Call (.Name x p) (e :: es) [] pos) (tCB r t) := by
  intro pins s σ H Q I h
  refine wpAny_Call_Name_kw (ld_blt I hg hm hv ?_ hn hdb)
  exact PyProof.Rows.callWith_type1 (thn (ha pos pins s σ H _ I h) fun us s1 ⟨vs, H1, I1, r1, q1⟩ => hc pins s1 σ H1 vs us Q I1 r1 q1) he hpl
end
end L2
namespace HT
open PySem PyProof.Rows
section
open PySem.SeqAt
open PySem.AutoSeq1 (wpAny_loadPart')
open PySem.MeetsSeq PySem.MeetsSeq2 PySem.MeetsSeq3
end
section
variable {prog : Program} {w : World} {A : Around} {E : Value → Shared → Prop} {s : Shared}
theorem cat_tup {t b : Addr} {vs ws : List Value} {Q : Value → Shared → Prop} (ht : IsTup s.heap t vs.toArray) (hb : IsTup s.heap b ws.toArray) (hv : vs ≠ [])
    (h1 : ws = [] → Q (.ref t) s) (h2 : ws ≠ [] → Q (.ref s.heap.objs.size) { s with heap := s.heap.push { cls := .type "tuple", data := .seq (vs ++ ws).toArray } })
    (hsz : vs.length + ws.length ≤ sizeLine) : wpAny (model prog w) A (binaryOp .Add (.ref t) (.ref b)) Q E s := by
  obtain ⟨⟨cls, dd, data, sl⟩, ho, hc, n, hd⟩ := id ht
  obtain ⟨⟨cls2, dd2, data2, sl2⟩, ho2, hc2, n2, hd2⟩ := id hb
  simp only at hc hd hc2 hd2
  subst hc hd hc2 hd2
  have e : vs.toArray ++ ws.toArray = (vs ++ ws).toArray := by simp
  by_cases hw : ws = []
  · exact concat_meets ⟨_, ho, rfl⟩ ⟨_, ho2, rfl⟩ noFill_tuple_add seq_tuple_add PySem.F.slot_tuple_add PySem.F.entry_tuple_add (PySem.F.args_tuple_add_2 _ _)
      (tuple_addW1 t b vs.toArray ws.toArray n n2 dd dd2 sl sl2 (by simpa using hv) (by simp [hw])) ⟨ho, ho2, h1 hw⟩
  · refine concat_meets ⟨_, ho, rfl⟩ ⟨_, ho2, rfl⟩ noFill_tuple_add seq_tuple_add PySem.F.slot_tuple_add PySem.F.entry_tuple_add (PySem.F.args_tuple_add_2 _ _)
      (tuple_addW2 t b vs.toArray ws.toArray n n2 dd dd2 sl sl2 (by simpa using hv) (by simpa using hw) (by rw [List.size_toArray, List.size_toArray]; exact hsz)) ⟨ho, ho2, ?_⟩
    rw [e]
    exact h2 hw
noncomputable def sIx (n d : Nat) : Option Int → Nat
  | none => d
  | some v => if v < 0 then (v + (n : Int)).toNat else min v.toNat n
theorem sIx_le (n d : Nat) (hd : d ≤ n) (o : Option Int) : sIx n d o ≤ n := by
  cases o with
  | none => exact hd
  | some v =>
    show (if v < 0 then (v + (n : Int)).toNat else min v.toNat n) ≤ n
    by_cases hv : v < 0
    · rw [if_pos hv]; omega
    · rw [if_neg hv]; exact Nat.min_le_right _ _
theorem clip_eq (v : Int) (n d : Nat) : (if v < 0 then max (v + (n : Int)) 0 else min v (n : Int)) = ((sIx n d (some v) : Nat) : Int) := by
  show (if v < 0 then max (v + (n : Int)) 0 else min v (n : Int)) = (((if v < 0 then (v + (n : Int)).toNat else min v.toNat n) : Nat) : Int)
  by_cases hv : v < 0
  · simp only [if_pos hv]; omega
  · simp only [if_neg hv]; omega
theorem adjust_gen (lo hi : Option Int) (n : Nat) : Builtin.Slice.sliceAdjust lo hi 1 (n : Int) = (((sIx n 0 lo : Nat) : Int), ((sIx n n hi : Nat) : Int)) := by
  have h1 : ¬ ((1 : Int) < 0) := by omega
  unfold Builtin.Slice.sliceAdjust
  simp only [h1, if_false]
  refine Prod.ext ?_ ?_
  · cases lo with
    | none => rfl
    | some v => exact clip_eq v n 0
  · cases hi with
    | none => rfl
    | some v => exact clip_eq v n n
theorem places_gen (i j : Nat) : Builtin.Slice.slicePlaces (i : Int) (j : Int) 1 = j - i := by
  unfold Builtin.Slice.slicePlaces
  have h1 : (1 : Int) > 0 := by omega
  simp only [h1, if_true, Int.ediv_one]
  split <;> omega
theorem slicePart_ {v : Value} {o : Option Int} {Q : Option Int → Shared → Prop} (p : IsPart v o) (h : Q o s) : wpAny (model prog w) A (Builtin.Slice.slicePartIndex v) Q E s := by
  cases p with
  | none => exact slicePart_none h
  | int i t => exact slicePart_int h
theorem sliceApplied_gen {sl : Addr} {vl vu : Value} {lo hi : Option Int} {n : Nat} {Q : Int × Int × Nat → Shared → Prop} (hs : s.heap.IsSliceOf sl vl vu .none) (pl : IsPart vl lo) (pu : IsPart vu hi)
    (h : Q (((sIx n 0 lo : Nat) : Int), 1, sIx n n hi - sIx n 0 lo) s) : wpAny (model prog w) A (Builtin.Slice.sliceApplied (.ref sl) (pure (n : Int))) Q E s := by
  obtain ⟨os, hos, hcs, hds⟩ := id hs
  unfold Builtin.Slice.sliceApplied Builtin.Slice.sliceFields
  refine wpAny_bind (wpAny_bind (wpAny_field hos hds (x := vl) rfl (wpAny_bind (wpAny_field hos hds (x := vu) rfl (wpAny_bind (wpAny_field hos hds (x := .none) rfl (wpAny_pure ?_)))))))
  refine wpAny_bind (slicePart_none ?_)
  show wpAny _ _ (if ((1 : Int) == 0) = true then _ else _) _ _ s
  rw [if_neg (by decide)]
  refine wpAny_bind (slicePart_ pl (wpAny_bind (slicePart_ pu (wpAny_bind (wpAny_pure ?_)))))
  show wpAny _ _ (match Builtin.Slice.sliceAdjust lo hi 1 (n : Int) with | (lo, hi) => pure (lo, (1 : Int), Builtin.Slice.slicePlaces lo hi 1)) _ _ s
  rw [adjust_gen lo hi n]
  show wpAny _ _ (pure (((sIx n 0 lo : Nat) : Int), (1 : Int), Builtin.Slice.slicePlaces ((sIx n 0 lo : Nat) : Int) ((sIx n n hi : Nat) : Int) 1)) _ _ s
  rw [places_gen]
  exact wpAny_pure h
theorem pick_gen (xs : Array Value) (i k : Nat) : ((List.range k).filterMap fun (m : Nat) => xs[((i : Int) + (m : Int) * 1).toNat]?).toArray = ((xs.toList.drop i).take k).toArray := by
  have e : (fun (m : Nat) => xs[((i : Int) + (m : Int) * 1).toNat]?) = fun m => xs[i + m]? := by
    funext m
    have : ((i : Int) + (m : Int) * 1).toNat = i + m := by omega
    rw [this]
  rw [e]
  have := pick_run xs i k
  rw [List.filterMap_map] at this
  have e2 : ((fun x => xs[x]?) ∘ fun x => i + x) = fun m => xs[i + m]? := rfl
  rw [e2] at this
  rw [this]
theorem getItem_tuple_cut {t sl : Addr} {items : Array Value} {vl vu : Value} {lo hi : Option Int} {Q : Value → Shared → Prop} (ht : IsTup s.heap t items) (hs : s.heap.IsSliceOf sl vl vu .none) (pl : IsPart vl lo) (pu : IsPart vu hi)
    (hw : ¬ (sIx items.size 0 lo = 0 ∧ sIx items.size items.size hi = items.size))
    (h : Q (.ref s.heap.objs.size) { s with heap := s.heap.push { cls := .type "tuple", data := .seq ((items.toList.drop (sIx items.size 0 lo)).take (sIx items.size items.size hi - sIx items.size 0 lo)).toArray } })
    (hsz : items.size ≤ sizeLine) : wpAny (model prog w) A (getItem (.ref t) (.ref sl)) Q E s := by
  have htake : sizeOk (.seq ((items.toList.drop (sIx items.size 0 lo)).take (sIx items.size items.size hi - sIx items.size 0 lo)).toArray) := by
    show ((items.toList.drop (sIx items.size 0 lo)).take (sIx items.size items.size hi - sIx items.size 0 lo)).toArray.size ≤ sizeLine
    rw [List.size_toArray, List.length_take, List.length_drop, Array.length_toList]
    omega
  have hj : sIx items.size items.size hi ≤ items.size := sIx_le _ _ (Nat.le_refl _) hi
  obtain ⟨os, hos, hcs, hds⟩ := id hs
  have hTs : s.TypeIs (.ref sl) "slice" := ⟨os, hos, hcs⟩
  unfold getItem
  try with_reducible refine wpAny_holding ?_
  first | refine wpAny_bind (wpAny_pure ?_) | skip
  refine wpAny_bind (wpAny_sequenceKey ht.typeIs (by decide) ?_)
  refine wpAny_bind (wpAny_callSpecial?_slot (name := Str.ofString "__getitem__") ht.typeIs PyProof.Rows.slot_tuple_getitem
    (wpAny_call_entry PyProof.Rows.slot_tuple_getitem ht.typeIs entry_tuple_getitem ?_ (args_tuple_getitem _ _)))
  show wpAny _ _ (Builtin.Tuple.tupleItemsOf (.ref t) >>= _) _ _ s
  refine wpAny_bind (tupleItemsOf_ ht ?_)
  refine wpAny_bind (wpAny_typeOf hTs ?_)
  rw [if_pos (by decide)]
  refine wpAny_bind (sliceApplied_gen hs pl pu ?_)
  have hno : ¬ ((((sIx items.size 0 lo : Nat) : Int) == 0 && (1 : Int) == 1 && (sIx items.size items.size hi - sIx items.size 0 lo) == items.size) = true) := by
    intro q
    rw [Bool.and_eq_true, Bool.and_eq_true] at q
    have q1 : ((sIx items.size 0 lo : Nat) : Int) = 0 := eq_of_beq q.1.1
    have q2 : sIx items.size items.size hi - sIx items.size 0 lo = items.size := eq_of_beq q.2
    exact hw ⟨by omega, by omega⟩
  show wpAny _ _ (if (((sIx items.size 0 lo : Nat) : Int) == 0 && (1 : Int) == 1 && (sIx items.size items.size hi - sIx items.size 0 lo) == items.size) = true then _ else _) _ _ s
  rw [if_neg hno, pick_gen]
  first
    | exact wpAny_bind (m := Builtin.Tuple.tupleExact _) (wpAny_newObj_type (wpAny_pure ⟨_, rfl, wpAny_pure h⟩) htake)
    | exact wpAny_bind (m := Builtin.Tuple.tupleExact _) (wpAny_newObj_type (wpAny_bind (wpAny_pure (wpAny_pure ⟨_, rfl, wpAny_pure h⟩))) htake)
    | exact wpAny_bind (wpAny_bind (m := Builtin.Tuple.tupleExact _) (wpAny_newObj_type (wpAny_pure (wpAny_pure ⟨_, rfl, wpAny_pure h⟩)) htake))
    | exact wpAny_bind (wpAny_bind (m := Builtin.Tuple.tupleExact _) (wpAny_newObj_type (wpAny_pure ⟨_, rfl, wpAny_pure h⟩) htake))
end
end HT
namespace L2
open PySem PySem.Spec PyProof.Rows
noncomputable abbrev TO := St → Hp → (Option Int → Hp → Prop) → Prop
noncomputable def PO (X : Cx) (e : Option Expr) (t : TO) : Prop :=
  ∀ (pins : List (Addr × Obj)) (s : Shared) (σ : St) (H : Hp) (Q : Option Int → Hp → Prop), Inv X pins σ H s → t σ H Q →
    wpAny (model X.prog X.w) X.A (evalPart e X.env) (fun u s' => ∃ o H', Inv X pins σ H' s' ∧ IsPart u o ∧ Q o H') X.xe s
noncomputable def tNoPart : TO := fun _ H Q => Q none H
noncomputable def tPart (t : TE) : TO := fun σ H Q => t σ H fun x H1 => ∃ i, x = .int i ∧ Q (some i) H1
section
variable {X : Cx} {e : Expr} {te : TE} {lo hi : Option Expr} {tl th : TO} {pos p2 : Pos}
theorem po_none : PO X none tNoPart := by
  intro pins s σ H Q I h
  rw [evalPart_none]
  exact wpAny_pure ⟨none, H, I, .none, h⟩
theorem po_some (h : PE X e te) : PO X (some e) (tPart te) := by
  intro pins s σ H Q I hw
  rw [evalPart_some]
  refine thn (h pins s σ H _ I hw) fun u s1 ⟨x, H1, I1, r1, q1⟩ => ?_
  obtain ⟨i, rfl, q⟩ := q1
  obtain ⟨t, rfl⟩ := r1
  exact ⟨some i, H1, I1, .int i t, q⟩
noncomputable def SlR (X : Cx) (r : V → Option Int → Option Int → Hp → VK → Prop) : Prop :=
  ∀ (pins : List (Addr × Obj)) (s : Shared) (σ : St) (H : Hp) (x : V) (v vl vu : Value) (lo hi : Option Int) (sl : Addr) (Q : VK), Inv X pins σ H s → RelV x v → s.heap.IsSliceOf sl vl vu .none → IsPart vl lo → IsPart vu hi → r x lo hi H Q →
    ∃ T id, typeLookup (.type T) "__getitem__" = pure (some (.builtin id)) ∧ s.TypeIs v T ∧ wpAny (model X.prog X.w) X.A (getItem v (.ref sl)) (EP X pins σ Q) X.xe s
noncomputable def tSl (r : V → Option Int → Option Int → Hp → VK → Prop) (te : TE) (tl th : TO) : TE := fun σ H Q => te σ H fun x H1 => tl σ H1 fun l H2 => th σ H2 fun u H3 => r x l u H3 Q
theorem pe_slice {r : V → Option Int → Option Int → Hp → VK → Prop} (hr : SlR X r) (he : PE X e te) (hl : PO X lo tl) (hu : PO X hi th) : PE X (.Subscript e (.Slice lo hi none p2) pos) (tSl r te tl th) := by
  intro pins s σ H Q I h
  refine Subscript_ (thn (he pins s σ H _ I h) fun v s1 ⟨x, H1, I1, r1, q1⟩ => ?_)
  refine wpAny_Slice (thn (hl pins s1 σ H1 _ I1 q1) fun vl s2 ⟨l, H2, I2, pl, q2⟩ => thn (hu pins s2 σ H2 _ I2 q2) fun vu s3 ⟨u, H3, I3, pu, q3⟩ => ?_)
  rw [evalPart_none]
  refine wpAny_pure ?_
  have I4 : Inv X pins σ H3 { s3 with heap := s3.heap.push { cls := .type "slice", data := .fields #[vl, vu, .none] } } := I3.kept (t' := s3.toks) fun b ob q => Heap.get?_push_of_some _ q
  obtain ⟨T, id, hT, ht, hg⟩ := hr pins { s3 with heap := s3.heap.push { cls := .type "slice", data := .fields #[vl, vu, .none] } } σ H3 x v vl vu l u s3.heap.objs.size Q I4 r1 (Heap.IsSliceOf.new ..) pl pu q3
  show wpAny (model X.prog X.w) X.A (subscriptTail e (.Slice lo hi none p2) v (.ref s3.heap.objs.size)) (EP X pins σ Q) X.xe { s3 with heap := s3.heap.push { cls := .type "slice", data := .fields #[vl, vu, .none] } }
  exact tail_any (ops := [.ref s3.heap.objs.size, v]) ht hT hg (by with_unfolding_all rfl)
noncomputable def cutV (xs : List V) (lo hi : Option Int) : List V := (xs.drop (HT.sIx xs.length 0 lo)).take (HT.sIx xs.length xs.length hi - HT.sIx xs.length 0 lo)
theorem cutV_length (xs : List V) (lo hi : Option Int) : (cutV xs lo hi).length ≤ xs.length := by
  unfold cutV
  rw [List.length_take, List.length_drop]
  omega
noncomputable def rSlT (K : PySem.W.Frag) : V → Option Int → Option Int → Hp → VK → Prop := fun x lo hi H Q => ∃ a xs, x = .ref a ∧ SqT K H a xs ∧
  ¬ (HT.sIx xs.length 0 lo = 0 ∧ HT.sIx xs.length xs.length hi = xs.length) ∧ ∀ p, H p = none → Q (.ref p) (upd H p (.tup (cutV xs lo hi)))
theorem sl_tup : SlR X (rSlT X.K) := by
  intro pins s σ H x v vl vu lo hi sl Q I rx hs pl pu h
  obtain ⟨a, xs, rfl, hx, hw, q⟩ := h
  cases rx
  obtain ⟨its, r, ht, hz⟩ := I.tuple hx
  have hlen : its.toArray.size = xs.length := by rw [List.size_toArray]; exact r.length.symm
  refine ⟨"tuple", _, PyProof.Rows.slot_tuple_getitem.lookup, ht.typeIs, ?_⟩
  refine HT.getItem_tuple_cut ht hs pl pu (by rw [hlen]; exact hw) ?_ (by rw [hlen]; exact hz)
  rw [hlen]
  refine ⟨.ref s.heap.objs.size, _, I.laid (t' := s.toks) (o := .tup (cutV xs lo hi)) (fun b ob q => Heap.get?_push_of_some _ q) (Nat.le_refl _) ?_, rfl, q _ (I.hok.fresh (Nat.le_refl _))⟩
  exact ⟨Nat.le_trans (cutV_length xs lo hi) hz, _, (r.drop (HT.sIx xs.length 0 lo)).take (HT.sIx xs.length xs.length hi - HT.sIx xs.length 0 lo), IsTup.new _ _⟩
noncomputable def rCatT (K : PySem.W.Frag) : R2 := fun x y H Q => ∃ a b xs ys, x = .ref a ∧ y = .ref b ∧ SqT K H a xs ∧ SqT K H b ys ∧ xs ≠ [] ∧ xs.length + ys.length ≤ sizeLine ∧
  (ys = [] → Q (.ref a) H) ∧ (ys ≠ [] → ∀ p, H p = none → Q (.ref p) (upd H p (.tup (xs ++ ys))))
theorem Vals.nil_iff {xs : List V} {us : List Value} (r : Vals xs us) : us = [] ↔ xs = [] := by
  cases r with
  | nil => simp
  | cons _ _ => simp
theorem op_catT : OpR X (binaryOp .Add) (rCatT X.K) := by
  intro pins s σ H x y v u Q I rx ry h
  obtain ⟨a, b, xs, ys, rfl, rfl, ha, hb, hx, hz, q1, q2⟩ := h
  cases rx
  cases ry
  obtain ⟨its, r1, p1, _⟩ := I.tuple ha
  obtain ⟨its2, r2, p2, _⟩ := I.tuple hb
  refine HT.cat_tup p1 p2 (fun z => hx (r1.nil_iff.mp z)) (fun z => ⟨.ref a, H, I, rfl, q1 (r2.nil_iff.mp z)⟩) (fun z => ?_) (by rw [← r1.length, ← r2.length]; exact hz)
  refine ⟨.ref s.heap.objs.size, _, I.laid (t' := s.toks) (o := .tup (xs ++ ys)) (fun b ob q => Heap.get?_push_of_some _ q) (Nat.le_refl _) ?_, rfl, q2 (fun w => z (r2.nil_iff.mpr w)) _ (I.hok.fresh (Nat.le_refl _))⟩
  exact ⟨by rw [List.length_append]; exact hz, _, r1.append r2, IsTup.new _ _⟩
end
end L2
namespace L2
open PySem PySem.Spec PyProof.Rows
noncomputable def ixN (n : Nat) (i : Int) : Option Nat := if 0 ≤ i then (if i < n then some i.toNat else none) else if -(n : Int) ≤ i then some (i + n).toNat else none
noncomputable def atI {α : Type} (xs : List α) (i : Int) : Option α := (ixN xs.length i).bind fun j => xs[j]?
theorem ixN_seq {n : Nat} {i : Int} {j : Nat} (h : ixN n i = some j) : seqIndex? i n = some j ∧ j < n ∧ -(n : Int) ≤ i ∧ i < n := by
  unfold ixN at h
  by_cases h0 : 0 ≤ i
  · rw [if_pos h0] at h
    by_cases h1 : i < n
    · rw [if_pos h1] at h
      have e : i.toNat = j := Option.some.inj h
      exact ⟨by rw [seqIndex_of h0 h1, e], by omega, by omega, h1⟩
    · rw [if_neg h1] at h; cases h
  · rw [if_neg h0] at h
    by_cases h1 : -(n : Int) ≤ i
    · rw [if_pos h1] at h
      have e : (i + n).toNat = j := Option.some.inj h
      exact ⟨by rw [seqIndex_neg (by omega) h1, e], by omega, h1, by omega⟩
    · rw [if_neg h1] at h; cases h
theorem atI_get {α : Type} {xs : List α} {i : Int} {v : α} (h : atI xs i = some v) : ∃ j, seqIndex? i xs.length = some j ∧ xs[j]? = some v ∧ j < xs.length ∧ -(xs.length : Int) ≤ i ∧ i < xs.length := by
  unfold atI at h
  cases e : ixN xs.length i with
  | none => rw [e] at h; cases h
  | some j =>
    rw [e] at h
    obtain ⟨h1, h2, h3, h4⟩ := ixN_seq e
    exact ⟨j, h1, h, h2, h3, h4⟩
theorem atI_nat {α : Type} {xs : List α} {j : Nat} {v : α} (h : xs[j]? = some v) : atI xs (j : Int) = some v := by
  have hj : j < xs.length := (List.getElem?_eq_some_iff.mp h).1
  have e : ixN xs.length (j : Int) = some j := by
    unfold ixN
    rw [if_pos (by omega), if_pos (by omega)]; simp
  unfold atI; rw [e]; exact h
noncomputable def PlainIx (b : Expr) : Prop := ∀ o i, subscripted b false o i = operate [o, i] (getItem o i)
noncomputable def IxR (X : Cx) (r : R2) : Prop :=
  ∀ (value slice : Expr) (pins : List (Addr × Obj)) (s : Shared) (σ : St) (H : Hp) (x y : V) (v u : Value) (Q : VK), Inv X pins σ H s → RelV x v → RelV y u → r x y H Q →
    subscripted slice false v u = operate [v, u] (getItem v u) → wpAny (model X.prog X.w) X.A (subscriptTail value slice v u) (EP X pins σ Q) X.xe s
noncomputable def MtR (X : Cx) (id : String) (r : V → List V → Hp → VK → Prop) : Prop :=
  ∀ (pins : List (Addr × Obj)) (s : Shared) (σ : St) (H : Hp) (x : V) (xs : List V) (v : Value) (us : List Value) (Q : VK), Inv X pins σ H s → RelV x v → Vals xs us → r x xs H Q →
    wpAny (model X.prog X.w) X.A (call (.builtin id) (v :: us)) (EP X pins σ Q) X.xe s
section
variable {X : Cx} {a b : Expr} {ta tb : TE} {pos : Pos}
theorem IxR.or {r r' : R2} (h : IxR X r) (h' : IxR X r') : IxR X (fun x y H Q => r x y H Q ∨ r' x y H Q) := by
  intro value slice pins s σ H x y v u Q I rx ry q hs
  rcases q with q | q
  · exact h value slice pins s σ H x y v u Q I rx ry q hs
  · exact h' value slice pins s σ H x y v u Q I rx ry q hs
theorem pe_ix {r : R2} (hr : IxR X r) (ha : PE X a ta) (hb : PE X b tb) (hs : PlainIx b) : PE X (.Subscript a b pos) (tOp r ta tb) := by
  intro pins s σ H Q I h
  exact Subscript_ (binT ha hb I h fun v u s2 x y H2 I2 rx ry q => hr a b pins s2 σ H2 x y v u Q I2 rx ry q (hs _ _))
noncomputable def rIxL (K : PySem.W.Frag) : R2 := fun x y H Q => ∃ p xs i v, x = .ref p ∧ y = .int i ∧ SqL K H p xs ∧ atI xs i = some v ∧ Q v H
noncomputable def rIxT (K : PySem.W.Frag) : R2 := fun x y H Q => ∃ p xs i v, x = .ref p ∧ y = .int i ∧ SqT K H p xs ∧ atI xs i = some v ∧ Q v H
noncomputable def rIxS : R2 := fun x y H Q => ∃ z i c, x = .str z ∧ y = .int i ∧ z.length ≤ sizeLine ∧ atI z.cps.toList i = some c ∧ Q (.str ⟨#[c]⟩) H
theorem ix_list : IxR X (rIxL X.K) := by
  intro value slice pins s σ H x y v u Q I rx ry h hs
  obtain ⟨p, xs, i, z, rfl, rfl, hq, he, q⟩ := h
  cases rx
  obtain ⟨t, rfl⟩ := ry
  obtain ⟨its, r, pl, hz⟩ := I.list hq
  obtain ⟨j, h1, h2, h3, h4, h5⟩ := atI_get he
  obtain ⟨w, ew, rw'⟩ := r.get h2
  have hl := r.length
  have hn := line63
  have fin : EP X pins σ Q w s := ⟨z, H, I, rw', q⟩
  by_cases h0 : 0 ≤ i
  · have hj : i.toNat = j := by
      rw [seqIndex_of h0 h5] at h1
      exact Option.some.inj h1
    exact item_listR pl.isList h0 (by omega) (by rw [hj]; simpa using ew) fin hs
  · have hj : (i + (its.toArray.size : Int)).toNat = j := by
      rw [seqIndex_neg (by omega) h4] at h1
      rw [List.size_toArray, ← hl]
      exact Option.some.inj h1
    exact subscriptTail_builtinR (x := w) pl.isList.typeIs slot_list_getitem.lookup
      (wpAny_getItem_list_neg (Q := fun r s' => r = w ∧ EP X pins σ Q r s') pl.isList (by omega) (by rw [List.size_toArray] <;> omega) (by omega) (by rw [hj]; simpa using ew) ⟨rfl, fin⟩) hs
theorem ix_tup : IxR X (rIxT X.K) := by
  intro value slice pins s σ H x y v u Q I rx ry h hs
  obtain ⟨p, xs, i, z, rfl, rfl, hq, he, q⟩ := h
  cases rx
  obtain ⟨t, rfl⟩ := ry
  obtain ⟨its, r, pl, hz⟩ := I.tuple hq
  obtain ⟨j, h1, h2, h3, h4, h5⟩ := atI_get he
  obtain ⟨w, ew, rw'⟩ := r.get h2
  have hl := r.length
  have hn := line63
  have fin : EP X pins σ Q w s := ⟨z, H, I, rw', q⟩
  exact subscriptTail_builtinR (x := w) pl.typeIs slot_tuple_getitem.lookup
    (getItem_tuple (j := j) (Q := fun r s' => r = w ∧ EP X pins σ Q r s') pl (by omega) (by omega) (by rw [List.size_toArray, ← hl]; exact h1) (by simpa using ew) ⟨rfl, fin⟩) hs
theorem ix_str : IxR X rIxS := by
  intro value slice pins s σ H x y v u Q I rx ry h hs
  obtain ⟨z, i, c, rfl, rfl, hz, he, q⟩ := h
  obtain ⟨t, rfl⟩ := rx
  obtain ⟨t', rfl⟩ := ry
  obtain ⟨j, h1, h2, h3, h4, h5⟩ := atI_get he
  have hl : z.cps.toList.length = z.length := by simp [Str.length]
  rw [hl] at h1 h4 h5
  have hn := line63
  exact tail_any (typeIs_str s z t) slot_str_getitem.lookup (getItem_str (c := c) (by
    have e1 : decide (i < -(2 ^ 63 : Int)) = false := decide_eq_false (by omega)
    have e2 : decide (i ≥ 2 ^ 63) = false := decide_eq_false (by omega)
    rw [e1, e2, Bool.or_false]) (by rw [h1]; simpa using h2) ⟨.str ⟨#[c]⟩, H, I.tok _, ⟨_, rfl⟩, q⟩) hs
noncomputable def rIx (K : PySem.W.Frag) : R2 := fun x y H Q => rIxL K x y H Q ∨ rIxT K x y H Q ∨ rIxS x y H Q
theorem ix_seq : IxR X (rIx X.K) := ix_list.or (ix_tup.or ix_str)
theorem mapSeq_set (its : List Value) (n j : Nat) (u : Value) : Obj.mapSeq (·.setIfInBounds j u) { cls := .type "list", data := .seq its.toArray n } = { cls := .type "list", data := .seq (its.set j u).toArray n } := by
  simp [Obj.mapSeq]
theorem Inv.lst {pins : List (Addr × Obj)} {σ : St} {H : Hp} {s : Shared} {p : Addr} {xs : List V} (I : Inv X pins σ H s) (h : H p = some (.lst xs)) :
    ∃ (its : List Value) (n : Nat), Vals xs its ∧ s.heap.get? p = some { cls := .type "list", data := .seq its.toArray n } ∧ xs.length ≤ sizeLine := by
  obtain ⟨z, its, n, r, e⟩ := I.hok p _ h
  exact ⟨its, n, r, e, z⟩
theorem Inv.lstUpd {pins : List (Addr × Obj)} {σ : St} {H : Hp} {s : Shared} {p : Addr} {xs ys : List V} {its its' : List Value} {n n' : Nat} {f : Obj → Obj} (I : Inv X pins σ H s) (h : H p = some (.lst xs))
    (ho : s.heap.get? p = some { cls := .type "list", data := .seq its.toArray n }) (hf : f { cls := .type "list", data := .seq its.toArray n } = { cls := .type "list", data := .seq its'.toArray n' }) (r : Vals ys its') (hz : ys.length ≤ sizeLine) (t : Nat) :
    Inv X pins σ (upd H p (.lst ys)) { s with heap := s.heap.update p f, toks := t } := by
  have e : (s.heap.update p f).get? p = some { cls := .type "list", data := .seq its'.toArray n' } := by
    rw [Heap.get?_update_self f ho (by rw [hf] <;> rfl), hf]
  refine I.write (x := p) (e := p) (by rw [h]; trivial) (.inl rfl) (fun b u hb q => (Heap.get?_update_other _ _ (Ne.symm hb)).trans q) ⟨_, e⟩ ?_
  exact ⟨hz, its', n', r, e⟩
noncomputable def rSetL : V → V → V → Hp → (Hp → Prop) → Prop := fun o i v H Q => ∃ p xs k j, o = .ref p ∧ i = .int k ∧ H p = some (.lst xs) ∧ ixN xs.length k = some j ∧ Q (upd H p (.lst (xs.set j v)))
theorem set_list : PSet X rSetL := by
  intro pins s σ H o i v ov iv u Q I ro ri rv h
  obtain ⟨p, xs, k, j, rfl, rfl, hp, hj, q⟩ := h
  cases ro
  obtain ⟨t, rfl⟩ := ri
  obtain ⟨its, n, r, ho, hz⟩ := I.lst hp
  obtain ⟨h1, h2, h3, h4⟩ := ixN_seq hj
  have hl := r.length
  have hn := line63
  have I' : Inv X pins σ (upd H p (.lst (xs.set j v))) { s with heap := s.heap.update p (Obj.mapSeq (·.setIfInBounds j u)) } :=
    I.lstUpd hp ho (mapSeq_set its n j u) (r.set rv j) (by rw [List.length_set]; exact hz) s.toks
  by_cases h0 : 0 ≤ k
  · have hk : k.toNat = j := by
      rw [seqIndex_of h0 h4] at h1
      exact Option.some.inj h1
    exact PySem.W.ki_setAt ho h0 (by omega) (by rw [List.size_toArray, ← hl]; exact h4) (by rw [hk]; exact ⟨_, I', q⟩)
  · have hk : (k + (its.toArray.size : Int)).toNat = j := by
      rw [seqIndex_neg (by omega) h3] at h1
      rw [List.size_toArray, ← hl]
      exact Option.some.inj h1
    exact PySem.W.ki_setBack ho (by omega) (by rw [List.size_toArray, ← hl]; exact h3) (by omega) (by rw [hk]; exact ⟨_, I', q⟩)
theorem slice_bounds (lo hi : Option Int) (n : Nat) : (sliceBounds lo hi none n).1 = ((HT.sIx n 0 lo : Nat) : Int) ∧ (sliceBounds lo hi none n).2.1 = ((HT.sIx n n hi : Nat) : Int) ∧ (sliceBounds lo hi none n).2.2 = 1 := by
  refine ⟨?_, ?_, rfl⟩
  · cases lo with
    | none => simp [sliceBounds, HT.sIx]
    | some i =>
      simp only [sliceBounds, HT.sIx, Option.getD_none, show (1 : Int) > 0 by decide, if_true]
      by_cases h : i < 0
      · simp only [h, if_true] <;> omega
      · simp only [h, if_false] <;> omega
  · cases hi with
    | none => simp [sliceBounds, HT.sIx]
    | some i =>
      simp only [sliceBounds, HT.sIx, Option.getD_none, show (1 : Int) > 0 by decide, if_true]
      by_cases h : i < 0
      · simp only [h, if_true] <;> omega
      · simp only [h, if_false] <;> omega
theorem slicePick_cut (its : List Value) (lo hi : Option Int) : slicePick its.toArray lo hi none = ((its.drop (HT.sIx its.length 0 lo)).take (HT.sIx its.length its.length hi - HT.sIx its.length 0 lo)).toArray := by
  obtain ⟨h1, h2, h3⟩ := slice_bounds lo hi its.toArray.size
  unfold slicePick
  rw [h1, h2, h3]
  simp only [sliceRange_one, pick_run, List.size_toArray] <;> rfl
noncomputable def rSlL (K : PySem.W.Frag) : V → Option Int → Option Int → Hp → VK → Prop := fun x lo hi H Q => ∃ a xs, x = .ref a ∧ SqL K H a xs ∧ ∀ p, H p = none → Q (.ref p) (upd H p (.lst (cutV xs lo hi)))
theorem sl_list : SlR X (rSlL X.K) := by
  intro pins s σ H x v vl vu lo hi sl Q I rx hs pl pu h
  obtain ⟨a, xs, rfl, hx, q⟩ := h
  cases rx
  obtain ⟨its, r, ht, hz⟩ := I.list hx
  have hlen := r.length
  refine ⟨"list", _, slot_list_getitem.lookup, ht.isList.typeIs, ?_⟩
  refine wpAny_getItem_list_slice ht.isList hs pl pu .none (by simp) ?_ (by rw [List.size_toArray] <;> omega)
  rw [slicePick_cut, ← hlen]
  refine ⟨.ref s.heap.objs.size, _, I.laid (t' := s.toks) (o := .lst (cutV xs lo hi)) (fun b ob q => Heap.get?_push_of_some _ q) (Nat.le_refl _) ?_, rfl, q _ (I.hok.fresh (Nat.le_refl _))⟩
  exact ⟨Nat.le_trans (cutV_length xs lo hi) hz, _, 0, (r.drop (HT.sIx xs.length 0 lo)).take (HT.sIx xs.length xs.length hi - HT.sIx xs.length 0 lo), Heap.get?_push_size _ rfl⟩
noncomputable def flatV : V → Bool
  | .non => true
  | .bl _ => true
  | .int _ => true
  | .str _ => true
  | _ => false
noncomputable def eqV : V → V → Bool
  | .non, .non => true
  | .bl a, .bl b => a == b
  | .bl a, .int b => (if a then 1 else 0) == b
  | .int a, .bl b => a == (if b then 1 else 0)
  | .int a, .int b => a == b
  | .str a, .str b => a == b
  | _, _ => false
theorem eqAt_V {A : Around} {s : Shared} {y x : V} {u v : Value} (ry : RelV y u) (rx : RelV x v) (fy : flatV y = true) (fx : flatV x = true) : SeqAt.EqAt A s u v (eqV y x) := by
  cases y with
  | non =>
    cases ry
    cases x with
    | non => cases rx; exact SeqAt.EqAt.same _
    | bl b => cases rx; exact SeqAt.EqAt.none_bool b
    | int b => obtain ⟨t, rfl⟩ := rx; exact SeqAt.EqAt.none_int b t
    | str b => obtain ⟨t, rfl⟩ := rx; exact SeqAt.EqAt.none_str b t
    | _ => exact absurd (show false = true from fx) Bool.false_ne_true
  | bl a =>
    cases ry
    cases x with
    | non => cases rx; exact SeqAt.EqAt.bool_none a
    | bl b => cases rx; exact SeqAt.EqAt.bool_bool a b
    | int b => obtain ⟨t, rfl⟩ := rx; exact SeqAt.EqAt.bool_int a b t
    | str b => obtain ⟨t, rfl⟩ := rx; exact SeqAt.EqAt.bool_str a b t
    | _ => exact absurd (show false = true from fx) Bool.false_ne_true
  | int a =>
    obtain ⟨t', rfl⟩ := ry
    cases x with
    | non => cases rx; exact SeqAt.EqAt.int_none a t'
    | bl b => cases rx; exact SeqAt.EqAt.int_bool a t' b
    | int b => obtain ⟨t, rfl⟩ := rx; exact SeqAt.EqAt.int_int a t' b t
    | str b => obtain ⟨t, rfl⟩ := rx; exact SeqAt.EqAt.int_str a t' b t
    | _ => exact absurd (show false = true from fx) Bool.false_ne_true
  | str a =>
    obtain ⟨t', rfl⟩ := ry
    cases x with
    | non => cases rx; exact SeqAt.EqAt.str_none a t'
    | bl b => cases rx; exact SeqAt.EqAt.str_bool a t' b
    | int b => obtain ⟨t, rfl⟩ := rx; exact SeqAt.EqAt.str_int a t' b t
    | str b => obtain ⟨t, rfl⟩ := rx; exact SeqAt.EqAt.str_str a t' b t
    | _ => exact absurd (show false = true from fx) Bool.false_ne_true
  | _ => exact absurd (show false = true from fy) Bool.false_ne_true
noncomputable def eqU (x : V) (u : Value) : Bool := match u with
  | .none => eqV .non x
  | .bool b => eqV (.bl b) x
  | .int i _ => eqV (.int i) x
  | .str z _ => eqV (.str z) x
  | _ => false
theorem eqU_of {x y : V} {u : Value} (r : RelV y u) (f : flatV y = true) : eqU x u = eqV y x := by
  cases y with
  | non => cases r; rfl
  | bl b => cases r; rfl
  | int i => obtain ⟨t, rfl⟩ := r; rfl
  | str z => obtain ⟨t, rfl⟩ := r; rfl
  | _ => exact absurd (show false = true from f) Bool.false_ne_true
theorem mem_eqAt {A : Around} {s : Shared} {x : V} {v : Value} (rx : RelV x v) (fx : flatV x = true) : ∀ {xs : List V} {us : List Value}, Vals xs us → xs.all flatV = true → ∀ u ∈ us, SeqAt.EqAt A s u v (eqU x u)
  | _, _, .nil, _ => fun u hu => by cases hu
  | y :: xs, u :: us, .cons r t, f => fun u' hu => by
    rw [List.all_cons, Bool.and_eq_true] at f
    rcases List.mem_cons.mp hu with rfl | hu
    · rw [eqU_of r f.1]; exact eqAt_V r rx f.1 fx
    · exact mem_eqAt rx fx t f.2 u' hu
theorem call_len_seq : CallR X (.builtin "len") (fun xs H Q => ∃ p ys, xs = [.ref p] ∧ (SqL X.K H p ys ∨ SqT X.K H p ys) ∧ Q (.int ys.length) H) := by
  intro pins s σ H xs us Q I r h
  obtain ⟨p, ys, rfl, hq, q⟩ := h
  obtain ⟨u, rfl, rx⟩ := vals1 r
  cases rx
  have hn := line63
  rcases hq with hq | hq
  · obtain ⟨its, r', pl, hz⟩ := I.list hq
    have hlen := r'.length
    exact Calls.call_len_list pl.isList (by simp only [List.size_toArray] <;> omega) ⟨.int ys.length, H, I.tok _, ⟨s.toks + 1, by rw [List.size_toArray, hlen]⟩, q⟩
  · obtain ⟨its, r', pl, hz⟩ := I.tuple hq
    have hlen := r'.length
    exact len_tuple pl (by simp only [List.size_toArray] <;> omega) ⟨.int ys.length, H, I.tok _, ⟨s.toks + 1, by rw [List.size_toArray, hlen]⟩, q⟩
theorem call_tuple_of : CallR X (.type "tuple") (fun xs H Q => ∃ p ys, xs = [.ref p] ∧ ((SqL X.K H p ys ∧ ∀ l, H l = none → Q (.ref l) (upd H l (.tup ys))) ∨ (SqT X.K H p ys ∧ Q (.ref p) H))) := by
  intro pins s σ H xs us Q I r h
  obtain ⟨p, ys, rfl, h⟩ := h
  obtain ⟨u, rfl, rx⟩ := vals1 r
  cases rx
  rcases h with ⟨hq, q⟩ | ⟨hq, q⟩
  · obtain ⟨its, r', pl, hz⟩ := I.list hq
    have hlen := r'.length
    refine call_tuple_list pl.isList (fun h' kp => ?_) (by simp only [List.size_toArray] <;> omega)
    have I1 : Inv X pins σ H { s with heap := h' } := I.kept (t' := s.toks) kp
    have I2 : Inv X pins σ (upd H h'.objs.size (.tup ys)) { s with heap := h'.push { cls := .type "tuple", data := .seq its.toArray } } :=
      I1.laid (t' := s.toks) (fun b o e => Heap.get?_push_of_some _ e) (Nat.le_refl _) (show ObjOk X.prog X.w _ _ _ (.tup ys) from ⟨hz, its, r', IsTup.new _ _⟩)
    exact ⟨.ref h'.objs.size, _, I2, rfl, q _ (I1.hok.fresh (Nat.le_refl _))⟩
  · obtain ⟨its, r', pl, hz⟩ := I.tuple hq
    exact call_tuple_same pl ⟨.ref p, H, I, rfl, q⟩
noncomputable def tyV (K : PySem.W.Frag) (T : String) (x : V) (H : Hp) : Prop := match x with
  | .str _ => T = "str"
  | .int _ => T = "int"
  | .ref p => (T = "list" ∧ ∃ xs, SqL K H p xs) ∨ (T = "tuple" ∧ ∃ o, K.lookup p = some o ∧ o.cls = .type "tuple" ∧ o.dict = none) ∨
      (T = "dict" ∧ ((∃ kvs, H p = some (.dK kvs)) ∨ ∃ kvs, H p = some (.dT kvs))) ∨ (T = "set" ∧ ∃ S n, H p = some (.set S n))
  | _ => False
theorem tyV_is {pins : List (Addr × Obj)} {σ : St} {H : Hp} {s : Shared} {T : String} {x : V} {v : Value} (I : Inv X pins σ H s) (r : RelV x v) (ty : tyV X.K T x H) :
    s.TypeIs v T ∧ ∀ a, v = .ref a → ∃ ob, s.heap.get? a = some ob ∧ ob.dict = none := by
  cases x with
  | str z =>
    obtain ⟨t, rfl⟩ := r
    cases (show T = "str" from ty)
    exact ⟨typeIs_str s z t, fun _ e => nomatch e⟩
  | int i =>
    obtain ⟨t, rfl⟩ := r
    cases (show T = "int" from ty)
    exact ⟨typeIs_int s i t, fun _ e => nomatch e⟩
  | ref p =>
    cases r
    rcases ty with ⟨rfl, xs, hq⟩ | ⟨rfl, o, hk, hc, hd⟩ | ⟨rfl, hk⟩ | ⟨rfl, S, n, hk⟩
    · obtain ⟨its, _, pl, _⟩ := I.list hq
      refine ⟨pl.isList.typeIs, fun a e => ?_⟩
      cases e
      obtain ⟨o, n, e, c, hd, _⟩ := pl
      exact ⟨o, e, hd⟩
    · refine ⟨⟨o, I.kIn p o hk, hc⟩, fun a e => ?_⟩
      cases e
      exact ⟨o, I.kIn _ o hk, hd⟩
    · have z : ∃ o, s.heap.get? p = some o ∧ o.ExactDict := by
        rcases hk with ⟨kvs, hk⟩ | ⟨kvs, hk⟩
        · obtain ⟨_, _, _, _, o, _, _, e, ex, _⟩ := I.hok p _ hk
          exact ⟨o, e, ex⟩
        · obtain ⟨_, _, _, _, o, _, _, e, ex, _⟩ := I.hok p _ hk
          exact ⟨o, e, ex⟩
      obtain ⟨o, e, ex⟩ := z
      refine ⟨⟨o, e, ex.1⟩, fun a e2 => ?_⟩
      cases e2
      exact ⟨o, e, ex.2.1⟩
    · obtain ⟨o, _, _, _, e, ex, _⟩ := I.hok p _ hk
      refine ⟨⟨o, e, ex.1⟩, fun a e2 => ?_⟩
      cases e2
      exact ⟨o, e, ex.2.1⟩
  | _ => exact False.elim ty
noncomputable def tBM (K : PySem.W.Frag) (T : String) (r : V → List V → Hp → VK → Prop) (to : TE) (t : TA) : TE := fun σ H Q => to σ H fun x H1 => tyV K T x H1 ∧ t σ H1 fun xs H2 => r x xs H2 Q
variable {o e : Expr} {es : List Expr} {to : TE} {t : TA} {name : Str} {apos cpos : Pos} {T id : String} {r : V → List V → Hp → VK → Prop}
theorem pe_bm (pa : PlainAttrs T) (slot : Slot T name id) (hty : typeOf (.builtin id) = pure (.type "method_descriptor")) (hm : MtR X id r) (ho : PE X o to) (ha : PA X (e :: es) t)
    (hbase : attributeBase o name X.env (eval o X.env) = eval o X.env := by rfl)
    (hfew : ((backTo cpos (starEach (e :: es) X.env)).all (fun x => !x.1) && (backToKw cpos (keywordEach [] X.env)).all (fun x => x.1.isSome)
      && decide ((e :: es).length + ([] : List Keyword).length + (if ([] : List Keyword).isEmpty then 0 else 1) < 30)) = true := by rfl)
    (hline : (apos.endLine == cpos.line) = true := by rfl) (hs : starEach (e :: es) X.env = (false, eval e X.env) :: starEach es X.env := by rfl) (hplain : (backTo cpos (starEach es X.env)).any (·.1) = false := by rfl) :
    PE X (.Call (.Attribute o name apos) (e :: es) [] cpos) (tBM X.K T r to t) := by
  intro pins s σ H Q I h
  refine wpAny_Call_method_late hbase hfew hline rfl (thn (ho pins s σ H _ I h) fun v s1 ⟨x, H1, I1, r1, ty, q1⟩ => ?_)
  obtain ⟨h1, h2⟩ := tyV_is I1 r1 ty
  refine ⟨T, id, pa, slot, hty, h1, h2, ?_⟩
  have hA := ha cpos pins s1 σ H1 _ I1 q1
  rw [hs] at hA ⊢
  refine Calls.callWith_builtin (by show (false || (backTo cpos (starEach es X.env)).any (·.1)) = false; rw [hplain] <;> rfl) (Calls.evalArgs_plain ?_)
  exact thn hA fun us s2 ⟨vs, H2, I2, r2, q2⟩ => hm pins s2 σ H2 x vs v us Q I2 r1 r2 q2
end
end L2
namespace L2
open PySem PySem.Spec PyProof.Rows
noncomputable def MtM (X : Cx) (id : String) (r : V → List V → Hp → VK → Prop) : Prop :=
  ∀ (pins : List (Addr × Obj)) (s : Shared) (σ : St) (H : Hp) (x : V) (xs : List V) (v : Value) (us : List Value) (Q : VK), Inv X pins σ H s → RelV x v → Vals xs us → r x xs H Q →
    wpAny (model X.prog X.w) X.A (call (.builtin id) (v :: us)) (EP X pins σ Q) X.xe s
theorem Vals.one : ∀ {x : V} {us : List Value}, Vals [x] us → ∃ u, us = [u] ∧ RelV x u
  | _, _, .cons r .nil => ⟨_, rfl, r⟩
theorem Vals.zero : ∀ {us : List Value}, Vals [] us → us = []
  | _, .nil => rfl
theorem Vals.rep {xs : List V} {us : List Value} (h : Vals xs us) : ∀ k : Nat, Vals (List.replicate k xs).flatten (List.replicate k us).flatten
  | 0 => .nil
  | k + 1 => by
    rw [List.replicate_succ, List.replicate_succ, List.flatten_cons, List.flatten_cons]
    exact Vals.append h (Vals.rep h k)
theorem foldl_rep (its : List Value) : ∀ (k : Nat) (acc : List Value),
    List.foldl (fun x1 x2 => x1 ++ x2) acc.toArray (List.replicate k its.toArray) = (acc ++ (List.replicate k its).flatten).toArray
  | 0, acc => by simp
  | k + 1, acc => by
    have e : acc.toArray ++ its.toArray = (acc ++ its).toArray := by simp
    have e2 : (acc ++ its) ++ (List.replicate k its).flatten = acc ++ (List.replicate (k + 1) its).flatten := by
      rw [List.replicate_succ, List.flatten_cons, List.append_assoc]
    rw [← e2, ← foldl_rep its k (acc ++ its), ← e, List.replicate_succ, List.foldl_cons]
section
variable {X : Cx} {pins : List (Addr × Obj)} {σ : St} {H : Hp} {s : Shared} {l b : Addr} {xs ys zs : List V}
theorem Inv.lset {its its' : List Value} {n : Nat} {f : Array Value → Array Value} {t' : Nat} (I : Inv X pins σ H s) (hH : H l = some (.lst xs))
    (e : s.heap.get? l = some { cls := .type "list", data := .seq its.toArray n }) (hf : f its.toArray = its'.toArray) (hv : Vals ys its') (hz : ys.length ≤ sizeLine) :
    Inv X pins σ (upd H l (.lst ys)) { s with heap := s.heap.update l (Obj.mapSeq f), toks := t' } := by
  have q := PySem.IsL.update e f
  rw [hf] at q
  refine I.write (x := l) (e := l) (by rw [hH]; exact trivial) (.inl rfl) (fun b' u hb hu => (Heap.get?_update_other s.heap (Obj.mapSeq f) (Ne.symm hb)).trans hu) ⟨_, q⟩ ?_
  exact ⟨hz, its', _, hv, q⟩
theorem Inv.lnew {its : List Value} {t' : Nat} (I : Inv X pins σ H s) (hv : Vals ys its) (hz : ys.length ≤ sizeLine) :
    Inv X pins σ (upd H s.heap.objs.size (.lst ys)) { s with heap := s.heap.push { cls := .type "list", data := .seq its.toArray }, toks := t' } :=
  I.laid (fun _ _ q => Heap.get?_push_of_some _ q) (Nat.le_refl _) ⟨hz, its, 0, hv, Heap.get?_push_size _ rfl⟩
theorem Inv.fresh (I : Inv X pins σ H s) : H s.heap.objs.size = none := I.hok.fresh (Nat.le_refl _)
theorem Inv.lstM (I : Inv X pins σ H s) (hH : H l = some (.lst xs)) : xs.length ≤ sizeLine ∧ ∃ (its : List Value) (n : Nat), Vals xs its ∧ xs.length = its.length ∧ s.heap.get? l = some { cls := .type "list", data := .seq its.toArray n } := by
  obtain ⟨z, its, n, r, e⟩ := I.hok l _ hH
  exact ⟨z, its, n, r, r.length, e⟩
theorem notLongL {n : Nat} (h : n ≤ sizeLine) : Builtin.List.listTooLong n = false := by
  unfold Builtin.List.listTooLong
  exact decide_eq_false (by omega)
end
section
variable {X : Cx}
noncomputable def rAppend : V → List V → Hp → VK → Prop := fun x vs H Q => ∃ l xs y, x = .ref l ∧ vs = [y] ∧ H l = some (.lst xs) ∧ xs.length < sizeLine ∧ Q .non (upd H l (.lst (xs ++ [y])))
theorem mt_append : MtM X "list.append" rAppend := by
  intro pins s σ H x vs v us Q I rx rv h
  obtain ⟨l, xs, y, rfl, rfl, hH, hz, q⟩ := h
  cases rx
  obtain ⟨u, rfl, ru⟩ := rv.one
  obtain ⟨z, its, n, r, hl, e⟩ := I.lstM hH
  refine call_meets F.slot_list_append ⟨_, e, rfl⟩ F.entry_list_append (F.args_list_append_2 _ _) (PySem.list_append l its.toArray n u (by rw [List.size_toArray]; omega)) ⟨e, ?_⟩
  refine ⟨.non, _, I.lset (its' := its ++ [u]) hH e (by simp) (r.append (.cons ru .nil)) ?_, rfl, q⟩
  rw [List.length_append, List.length_singleton]
  omega
theorem len_rep {α : Type} (xs : List α) (k : Nat) : (List.replicate k xs).flatten.length = k * xs.length := by
  induction k with
  | zero => simp
  | succ k ih => rw [List.replicate_succ, List.flatten_cons, List.length_append, ih, Nat.succ_mul, Nat.add_comm]
end
section
variable {prog : Program} {w : World} {A : Around} {E : Value → Shared → Prop} {s : Shared}
end
section
variable {X : Cx}
end
end L2
namespace Att
open PySem PySem.W PySem.Calls PyProof.Rows
theorem ints_of_wellAll {P : Params} {h : Heap} : ∀ (ns : List Int) (vs : List Value), WellAll P h vs (ns.map WData.int) → IntsAre vs ns := by
  intro ns
  induction ns with
  | nil =>
    intro vs w
    rw [List.map_nil] at w
    cases w
    exact .nil
  | cons n ns ih =>
    intro vs w
    rw [List.map_cons] at w
    cases w with
    | cons a b =>
      cases a
      exact .cons _ _ (ih _ b)
theorem script_of {l : OpenLaw} {n : Nat} (hn : l.most = some n) {P : Params} {h : Heap} {args : List WData} {vals : List Value}
    (hpre : l.row.toRowW.claim.pre args = true) (hwl : WellAll P h vals args) :
    ∃ a vs ns, vals = [Value.ref a] ∧ args = [WData.list (ns.map WData.int)] ∧ h.get? a = some { cls := .type "list", data := .seq vs.toArray } ∧ IntsAre vs ns ∧ ns.length ≤ n := by
  have hsh : WShape.hasAll [] args [.list .int] = true := (pre_splitW hpre).1
  have hc : l.pre.holds [] { args := args } = true := (pre_splitW hpre).2
  obtain ⟨d, r, rfl, h1, h2⟩ := hasAllW_cons hsh
  obtain rfl := hasAllW_nil h2
  obtain ⟨xs, rfl, h3⟩ := hasW_list h1
  obtain ⟨ns, rfl⟩ := items_int h3
  have hlen : ns.length ≤ n := by
    unfold OpenLaw.pre at hc
    have h4 : (WTm.not (.lt (.lit (.int (n : Int))) (.len (.arg 0)))).holds [] { args := [.list (ns.map .int)] } = true := by
      have h4 := (holds_andW hc).1
      rw [hn] at h4
      exact h4
    have h5 := condW_of h4 (w_not (w_lt w_lit (w_len_list (w_arg rfl))))
    rw [List.length_map] at h5
    refine Nat.le_of_not_lt fun q => ?_
    have q' : (n : Int) < ((ns.length : Nat) : Int) := by omega
    first
      | (rw [decide_eq_true q'] at h5; exact absurd h5 (by decide))
      | (simp at h5; omega)
  cases hwl with
  | cons w1 w2 =>
    cases w2
    cases w1 with
    | list ho hall => exact ⟨_, _, ns, rfl, rfl, ho, ints_of_wellAll ns _ hall, hlen⟩
theorem post_true (l : OpenLaw) (args : List WData) : l.row.toRowW.claim.post args (.bool true) args = true :=
  postW_of (r := l.row.toRowW) (X := (true == true))
    (show WShape.has [] (.bool true) .bool = true by first | rfl | decide | simp [WShape.has, WShape.arms, WShape.armsAll])
    (show (WTm.eq .res (.lit (.bool true))).value [] { args := args, res := some (.bool true), after := args } = some (.bool (true == true)) from w_eq_bool (w_res rfl) w_lit) rfl
theorem attach_call {l : OpenLaw} {n : Nat} {q : Program} {loose : List Str} {XP : (Str → Option Value) → Heap → Prop} {YP : World → Heap → Prop} {d : DefRec}
    (hn : l.most = some n) (hdf : d.params.defaults = [])
    (call : ∀ (w : World) (s₀ s₁ : Shared) (mg mb : Str → Option Value) (fa : Addr) (o : Obj) (pm cd doc : Value) (a : Addr) (vs : List Value) (ns : List Int),
      Ground q loose [] XP w s₀ mg mb s₁.heap → YP w s₁.heap →
      s₁.heap.get? fa = some o → o.data = .func (docDef d.name d.params d.body d.scope pm cd doc) → s₁.heap.CodeRec cd d.name → mg d.name = some (.ref fa) →
      s₁.heap.get? a = some { cls := .type "list", data := .seq vs.toArray } → IntsAre vs ns → ns.length ≤ n → s₁.gens = #[] →
      codeAny (model l.prog w) callerA (.call (.ref fa) ⟨[.ref a], []⟩) (fun r s' => r = .ok (.ret (.bool true)) ∧ OldK s₁.heap s'.heap ∧ s'.os = s₁.os ∧ AllBare s'.gens) s₁) :
    WalkO q loose XP YP l.row.toRowW d [] (fun f vs => PySem.call f vs) := by
  intro w s₀ s₁ mg mb G Y fa o pm cd doc dV kV ho hd hcd hD hmg hg args vals as hpre hlay hrd hwl hlo
  obtain rfl : dV = .none := Dflts.none hD hdf
  obtain rfl : kV = .none := Dflts.noKw hD
  obtain ⟨a, vs, ns, rfl, rfl, hobj, hints, hlen⟩ := script_of hn hpre hwl
  refine enter_call (codeAny_mono (call w s₀ s₁ mg mb fa o pm cd doc a vs ns G Y ho (fd_plain hd) hcd hmg hobj hints hlen hg) fun r s' hq => ?_)
  obtain ⟨rfl, h2, h3, h4⟩ := hq
  exact ⟨.inl ⟨.bool true, .bool true, [], rfl, fun _ => rfl, .bool true, post_true l _, fun _ => ⟨List.Pairwise.nil, fun _ hm => (nomatch hm)⟩⟩, h2, h3, h4⟩
section
variable {prog : Program} {w : World} {A : Around} {E : Value → Shared → Prop} {s : Shared} {K : Frag}
end
end Att
namespace L2
open PySem PySem.Spec PyProof.Rows
theorem vals_ints : ∀ {vs : List Value} {ns : List Int}, IntsAre vs ns → Vals (ns.map V.int) vs
  | _, _, .nil => .nil
  | _, _, .cons n t h => .cons ⟨t, rfl⟩ (vals_ints h)
noncomputable def Only (H : Hp) : Prop := ∀ b, H b = none ∨ ∃ o xs, H b = some (.frz o (.lst xs))
theorem law_call {P : Program} {w : World} {K : PySem.W.Frag} {mg mb : Str → Option Value} {CX : CXT} {k : Nat} {fa a : Addr} {fd : FuncData} {x : Str} {sp : Sp} {s₁ : Shared} {vs : List Value} {ns : List Int}
    (KX : K.In s₁.heap) (hns : s₁.heap.Ns mainGlobals mg) (hb : s₁.heap.Ns builtinsNs mb) (hbb : ∀ x : Str, x ≠ "__name__" → mb x = bootBuiltins x) (hlim : s₁.heap.NoLimit) (hg : s₁.gens = #[])
    (ha : s₁.heap.get? a = some { cls := .type "list", data := .seq vs.toArray }) (hi : IntsAre vs ns) (hl : ns.length ≤ sizeLine) (hr : Room k callerA)
    (F : ∀ base : Heap, K.In base → base.Ns mainGlobals mg → FnOk P w K mg base CX k fa fd [x] sp) (hbind : ∀ (s : Shared) (u : Value), BindsTo s fd ⟨[u], []⟩ [(x, u)])
    (hsp : ∀ H : Hp, Only H → SqL K H a (ns.map V.int) → sp [.ref a] H (fun v _ => v = .bl true) fun _ _ _ => False)
    (hCX : ∀ H e s', CX [] H s₁ (fun _ _ _ => False) e s' → False) :
    codeAny (model P w) callerA (.call (.ref fa) ⟨[.ref a], []⟩) (fun r s' => r = .ok (.ret (.bool true)) ∧ OldK s₁.heap s'.heap ∧ s'.os = s₁.os ∧ AllBare s'.gens) s₁ := by
  have rv := vals_ints hi
  have lenV := hi.length
  have core : ∀ H : Hp, Only H → SqL K H a (ns.map V.int) → HOk P w H s₁.heap → (∀ b, H b ≠ none → b = a) → (H a ≠ none → K.lookup a = none) →
      codeAny (model P w) callerA (.call (.ref fa) ⟨[.ref a], []⟩) (fun r s' => r = .ok (.ret (.bool true)) ∧ OldK s₁.heap s'.heap ∧ s'.os = s₁.os ∧ AllBare s'.gens) s₁ := by
    intro H hO hS hok hA hK
    have base_of : ∀ {b : Addr} {o : Obj}, s₁.heap.get? b = some o → H b = none → (hidT s₁.heap H).get? b = some o := fun e n => hidT_get e n
    have noA : ∀ {b : Addr} {o : Obj} {es : Array DictEntry} {ep : Nat}, s₁.heap.get? b = some o → o.data = .dict es ep → H b = none := fun {b o es ep} e d => by
      cases q : H b with
      | none => rfl
      | some u =>
        have e' : b = a := hA b (by rw [q]; simp)
        subst e'
        rw [ha] at e; cases e
        have d' : Data.seq vs.toArray _ = Data.dict es ep := d
        cases d'
    have nsK : ∀ {b : Addr} {m : Str → Option Value}, s₁.heap.Ns b m → (hidT s₁.heap H).Ns b m := fun {b m} ⟨o, es, ep, e, d, r⟩ => ⟨o, es, ep, base_of e (noA e d), d, r⟩
    have hKb : K.In (hidT s₁.heap H) := fun b o e => base_of (KX b o e) (by
      cases q : H b with
      | none => rfl
      | some u =>
        have e' : b = a := hA b (by rw [q]; simp)
        subst e'
        rw [hK (by rw [q]; simp)] at e; cases e)
    have hM : Mod K mg (hidT s₁.heap H) := ⟨hKb, nsK hns, ⟨mb, nsK hb, hbb⟩, let ⟨mc, h1, h2⟩ := hlim; ⟨mc, nsK h1, h2⟩⟩
    have e0 : Env0 P w K mg (hidT s₁.heap H) callerA [] s₁ H := ⟨rfl, hM, fun b o e => of_hidT e, Nat.le_of_eq (hidT_size _ _), trivial, fun b hb => absurd (show b ∈ ([] : List Addr) from hb) (by simp), hok, .of_eq hg⟩
    refine codeAny_mono ((F _ hKb (nsK hns)).run callerA [] s₁ H ⟨[.ref a], []⟩ [.ref a] [.ref a] _ _ hr e0 (hbind s₁ (.ref a)) (.cons rfl .nil) (hsp H hO hS)) fun r s' h => ?_
    cases r with
    | error e => exact (hCX H e s' h).elim
    | ok fl =>
      cases fl with
      | next => exact False.elim h
      | brk => exact False.elim h
      | cont => exact False.elim h
      | ret u =>
        obtain ⟨v, H', os, bare, un, hok', r', q⟩ := h
        have q' : v = .bl true := q
        subst q'
        obtain rfl : u = Value.bool true := r'
        refine ⟨rfl, OldK.of_keep fun b o e => ?_, os, bare⟩
        cases q : H b with
        | none => exact un.keep b o e q (by intro z; exact absurd (show b ∈ ([] : List Addr) from z) (by simp)) (by simp)
        | some u =>
          rcases hO b with z | ⟨ob, xs, z⟩
          · rw [q] at z; cases z
          · have z2 := un.frzs b ob _ z
            obtain ⟨e1, _⟩ := hok b _ z
            obtain ⟨e2, _⟩ := hok' b _ z2
            rw [e] at e1; cases e1
            exact e2
  cases hk : K.lookup a with
  | some o =>
    have e := KX a o hk
    rw [ha] at e
    cases e
    refine core (fun _ => none) (fun _ => .inl rfl) (.inr ⟨_, vs.toArray, _, hk, rfl, rfl, rfl, by rw [List.size_toArray, lenV]; exact hl, by simpa using rv⟩) (fun b u z => by have z' : (none : Option HO) = some u := z; cases z') (fun b z => absurd rfl z) fun z => absurd rfl z
  | none =>
    refine core (fun b => if b = a then some (.frz { cls := .type "list", data := .seq vs.toArray } (.lst (ns.map V.int))) else none) (fun b => ?_) (.inl (.inr ⟨{ cls := .type "list", data := .seq vs.toArray }, if_pos rfl⟩)) (fun b u z => ?_) (fun b z => ?_) fun _ => hk
    · by_cases hb : b = a
      · exact .inr ⟨_, _, if_pos hb⟩
      · exact .inl (if_neg hb)
    · by_cases hb : b = a
      · have z' := (if_pos hb).symm.trans z
        cases z'
        subst hb
        exact ⟨ha, by rw [List.length_map]; exact hl, vs, _, rv, ha⟩
      · have z' := (if_neg hb).symm.trans z
        cases z'
    · by_cases hb : b = a
      · exact hb
      · exact absurd (if_neg hb) z
end L2
namespace L2
open PySem PySem.Spec PyProof.Rows
theorem walk_of {l : PySem.W.OpenLaw} {n k : Nat} {q : Program} {loose : List Str} {XP : (Str → Option Value) → Heap → Prop} {YP : World → Heap → Prop} {d : DefRec} {K : Params → PySem.W.Frag} {CX : World → CXT} {sp : World → Sp} {x : Str}
    (hn : l.most = some n) (hn2 : n ≤ sizeLine) (hdf : d.params.defaults = []) (hr : Room k callerA)
    (hY : ∀ (w : World) (h : Heap), YP w h → (K w.params).In h)
    (F : ∀ (w : World) (mg : Str → Option Value) (fa : Addr) (h : Heap), (K w.params).In h → h.Ns mainGlobals mg → mg d.name = some (.ref fa) →
      ∃ fd : FuncData, (∀ (s : Shared) (u : Value), BindsTo s fd ⟨[u], []⟩ [(x, u)]) ∧
        ∀ base : Heap, (K w.params).In base → base.Ns mainGlobals mg → FnOk l.prog w (K w.params) mg base (CX w) k fa fd [x] (sp w))
    (hsp : ∀ (w : World) (H : Hp) (a : Addr) (ns : List Int), ns.length ≤ n → Only H → SqL (K w.params) H a (ns.map V.int) → sp w [.ref a] H (fun v _ => v = .bl true) fun _ _ _ => False)
    (hCX : ∀ (w : World) (H : Hp) (s : Shared) (e : Value) (s' : Shared), CX w [] H s (fun _ _ _ => False) e s' → False) :
    PySem.W.WalkO q loose XP YP l.row.toRowW d [] (fun f vs => PySem.call f vs) := by
  refine Att.attach_call hn hdf fun w s₀ s₁ mg mb fa o pm cd doc a vs ns G Y ho hd hcd hmg hobj hints hlen hg => ?_
  have KX := hY w _ Y
  obtain ⟨fd, hb, hF⟩ := F w mg fa _ KX G.T.g hmg
  exact law_call KX G.T.g G.T.b G.T.builtins G.T.nolimit hg hobj hints (Nat.le_trans hlen hn2) hr hF hb (fun H hO hS => hsp w H a ns hlen hO hS) fun H e s' => hCX w H s₁ e s'
end L2
namespace L2
open PySem PySem.Spec PyProof.Rows
noncomputable def defArgs (s : Stmt) : Arguments := match s with
  | .FunctionDef _ a _ _ _ _ _ _ _ _ => a
  | _ => { posonlyargs := [], args := [], vararg := none, kwonlyargs := [], kw_defaults := [], kwarg := none, defaults := [] }
noncomputable def defBody (s : Stmt) : List Stmt := match s with
  | .FunctionDef _ _ b _ _ _ _ _ _ _ => b
  | _ => []
noncomputable def defScope (s : Stmt) : Scope := match s with
  | .FunctionDef _ _ _ _ _ _ sc _ _ _ => sc
  | _ => { kind := .function, names := [], isGenerator := false, isCoroutine := false }
noncomputable abbrev CX0 : CXT := fun _ _ _ _ _ _ => False
noncomputable abbrev E0 : XK := fun _ _ _ => False
theorem pass0 {X : Cx} : Passes CX0 X E0 := fun _ _ _ _ _ _ _ h => h.elim
structure Fun (K : PySem.W.Frag) (x qual : Str) (st : Stmt) (f : Addr) (fd : FuncData) : Prop where
  ex : ∃ (oc : Value) (od : Option Addr) (kV doc pm : Value) (an : Option Addr) (cdv ct : Value) (osl : Array (Option Value)),
    fd = PySem.W.fnOf x qual (defArgs st) (defBody st) (defScope st) .none kV doc pm an cdv ct ∧ K.lookup f = some ⟨oc, od, .func fd, osl⟩ ∧ PySem.W.codeIn K cdv qual = true
  kp : PySem.W.keepIn K (.ref f) = true
section
variable {P : Program} {w : World} {K : PySem.W.Frag} {mg : Str → Option Value} {base : Heap}
theorem Fun.ok {x qual : Str} {st : Stmt} {f : Addr} {fd : FuncData} {N ps : List Str} {k : Nat} {sp : Sp} (F : Fun K x qual st f fd) (S : FnScope N ps (defScope st)) (len : ∀ vs H Q E, sp vs H Q E → vs.length = ps.length)
    (hbody : ∀ (cdv : Value) (A : Around) (outer : List Env) (s : Shared) (H : Hp) (vs : List V) (Q : VK) (E : XK), Room k (A.deeper (envOfC qual (defScope st) s.heap.objs.size f cdv)) → sp vs H Q E →
      ∃ t, PSs (cxOf CX0 P w K mg base N qual (defScope st) f cdv A outer s H E).nox (defBody st) t ∧ t { nx := fun _ H' => Q .non H', rt := Q } (start N vs) H) : FnOk P w K mg base CX0 (k + 1) f fd ps sp := by
  obtain ⟨oc, od, kV, doc, pm, an, cdv, ct, osl, rfl, lk, hcd⟩ := F.ex
  refine fn_of lk hcd S len fun A outer s H vs Q E hr hsp => ?_
  obtain ⟨t, h, q⟩ := hbody cdv A outer s H vs Q E hr hsp
  exact ⟨t, h.nox, q⟩
theorem Fun.binds {x qual : Str} {st : Stmt} {f : Addr} {fd : FuncData} {ps : List Str} (F : Fun K x qual st f fd)
    (h : ∀ (kV doc pm : Value) (an : Option Addr) (cdv ct : Value) (us : List Value), us.length = ps.length → bindArgs (PySem.W.fnOf x qual (defArgs st) (defBody st) (defScope st) .none kV doc pm an cdv ct) ⟨us, []⟩ = pure (ps.zip us)) : Binds K fd ps [] := by
  obtain ⟨oc, od, kV, doc, pm, an, cdv, ct, osl, rfl, lk, hcd⟩ := F.ex
  exact .all (h kV doc pm an cdv ct)
theorem fun_mk {x qual : Str} {st : Stmt} {f : Addr} {oc : Value} {od an : Option Addr} {osl : Array (Option Value)} {kV doc pm cdv ct : Value} (l : K.lookup f = some ⟨oc, od, .func (PySem.W.fnOf x qual (defArgs st) (defBody st) (defScope st) .none kV doc pm an cdv ct), osl⟩)
    (c : PySem.W.codeIn K cdv qual = true) (k : PySem.W.keepIn K (.ref f) = true) : Fun K x qual st f (PySem.W.fnOf x qual (defArgs st) (defBody st) (defScope st) .none kV doc pm an cdv ct) := ⟨⟨oc, od, kV, doc, pm, an, cdv, ct, osl, rfl, l, c⟩, k⟩
end
section
variable {X : Cx}
end
end L2
namespace L3
open PySem PySem.Spec PyProof.Rows L2
inductive D where
  | non | bl (b : Bool) | int (i : Int) | str (x : Str) | tup (xs : List D) | lst (xs : List D) | edc | ref (n : Nat)
noncomputable abbrev G := List (List D)
noncomputable abbrev Sg := List (Option D)
structure Ix where
  ix : List Addr
  hd : List Addr
noncomputable def SqV (K : PySem.W.Frag) (H : Hp) (ι : Ix) (a : Addr) (xs : List V) : Prop :=
  (Rd H a (.lst xs) ∧ a ∉ ι.ix ∧ a ∉ ι.hd) ∨
    ∃ (o : Obj) (its : Array Value) (n : Nat), K.lookup a = some o ∧ o.cls = .type "list" ∧ o.dict = none ∧ o.data = .seq its n ∧ its.size ≤ sizeLine ∧ Vals xs its.toList
theorem SqV.sq {K H ι a xs} (h : SqV K H ι a xs) : SqL K H a xs := by
  rcases h with ⟨h, _⟩ | h
  · exact .inl h
  · exact .inr h
noncomputable def SqU (K : PySem.W.Frag) (H : Hp) (ι : Ix) (a : Addr) (xs : List V) : Prop :=
  (Rd H a (.tup xs) ∧ a ∉ ι.ix) ∨
    ∃ (o : Obj) (its : Array Value) (n : Nat), K.lookup a = some o ∧ o.cls = .type "tuple" ∧ o.data = .seq its n ∧ its.size ≤ sizeLine ∧ Vals xs its.toList
theorem SqU.sq {K H ι a xs} (h : SqU K H ι a xs) : SqT K H a xs := by
  rcases h with ⟨h, _⟩ | h
  · exact .inl h
  · exact .inr h
mutual
noncomputable def Rel (K : PySem.W.Frag) (H : Hp) (ι : Ix) : D → V → Prop
  | .non, v => v = .non
  | .bl b, v => v = .bl b
  | .int i, v => v = .int i
  | .str x, v => v = .str x
  | .tup xs, v => ∃ a vs, v = .ref a ∧ SqU K H ι a vs ∧ RelL K H ι xs vs
  | .lst xs, v => ∃ a vs, v = .ref a ∧ SqV K H ι a vs ∧ RelL K H ι xs vs
  | .edc, v => ∃ a, v = .ref a ∧ H a = some (.dK []) ∧ a ∉ ι.ix
  | .ref n, v => ∃ a, v = .ref a ∧ ι.ix[n]? = some a
noncomputable def RelL (K : PySem.W.Frag) (H : Hp) (ι : Ix) : List D → List V → Prop
  | [], vs => vs = []
  | x :: xs, vs => ∃ v vr, vs = v :: vr ∧ Rel K H ι x v ∧ RelL K H ι xs vr
end
structure Ext (H : Hp) (ι : Ix) (H' : Hp) (ι' : Ix) : Prop where
  same : ∀ a o, H a = some o → a ∉ ι.ix → H' a = some o
  there : ∀ a, H a ≠ none → H' a ≠ none
  more : ∃ m, ι'.ix = ι.ix ++ m ∧ ∀ a ∈ m, H a = none
  hid : ι'.hd = ι.hd
structure RelG (K : PySem.W.Frag) (H : Hp) (ι : Ix) (g : G) : Prop where
  nd : ι.ix.Nodup
  len : ι.ix.length = g.length
  hid : ∀ b ∈ ι.hd, b ∉ ι.ix ∧ H b ≠ none
  at_ : ∀ (i : Nat) xs, g[i]? = some xs → ∃ a vs, ι.ix[i]? = some a ∧ H a = some (.lst vs) ∧ RelL K H ι xs vs
noncomputable def RelS (K : PySem.W.Frag) (H : Hp) (ι : Ix) (σd : Sg) (σ : L2.St) : Prop :=
  σd.length = σ.length ∧ ∀ (i : Nat) d, σd[i]? = some (some d) → ∃ v, σ[i]? = some (some v) ∧ Rel K H ι d v
theorem Ext.refl {H ι} : Ext H ι H ι := ⟨fun _ _ h _ => h, fun _ h => h, ⟨[], by simp, fun _ h => by simp at h⟩, rfl⟩
theorem Ext.old {H ι H1 ι1} (a : Ext H ι H1 ι1) {c : Addr} {o : HO} (h : H c = some o) (n : c ∉ ι.ix) : c ∉ ι1.ix := fun z => by
  obtain ⟨m1, e1, f1⟩ := a.more
  rw [e1] at z
  rcases List.mem_append.mp z with z | z
  · exact n z
  · rw [f1 c z] at h; cases h
theorem Ext.trans {H ι H1 ι1 H2 ι2} (a : Ext H ι H1 ι1) (b : Ext H1 ι1 H2 ι2) : Ext H ι H2 ι2 := by
  obtain ⟨m1, e1, f1⟩ := a.more
  obtain ⟨m2, e2, f2⟩ := b.more
  refine ⟨fun c o h n => b.same c o (a.same c o h n) (a.old h n), fun c h => b.there c (a.there c h), ⟨m1 ++ m2, by rw [e2, e1, List.append_assoc], fun c z => ?_⟩, b.hid.trans a.hid⟩
  rcases List.mem_append.mp z with z | z
  · exact f1 c z
  · cases q : H c with
    | none => rfl
    | some o => exact absurd (f2 c z) (a.there c (by rw [q]; simp))
theorem Ext.at {H ι H1 ι1} (a : Ext H ι H1 ι1) {i : Nat} {c : Addr} (h : ι.ix[i]? = some c) : ι1.ix[i]? = some c := by
  obtain ⟨m1, e1, _⟩ := a.more
  rw [e1, List.getElem?_append_left (List.getElem?_eq_some_iff.mp h).1]; exact h
theorem SqV.ext {K H ι H1 ι1 a xs} (e : Ext H ι H1 ι1) (h : SqV K H ι a xs) : SqV K H1 ι1 a xs := by
  rcases h with ⟨h | ⟨o, h⟩, n, k⟩ | h
  · exact .inl ⟨.inl (e.same _ _ h n), e.old h n, by rw [e.hid]; exact k⟩
  · exact .inl ⟨.inr ⟨o, e.same _ _ h n⟩, e.old h n, by rw [e.hid]; exact k⟩
  · exact .inr h
theorem SqU.ext {K H ι H1 ι1 a xs} (e : Ext H ι H1 ι1) (h : SqU K H ι a xs) : SqU K H1 ι1 a xs := by
  rcases h with ⟨h | ⟨o, h⟩, n⟩ | h
  · exact .inl ⟨.inl (e.same _ _ h n), e.old h n⟩
  · exact .inl ⟨.inr ⟨o, e.same _ _ h n⟩, e.old h n⟩
  · exact .inr h
mutual
theorem Rel.ext {K H ι H1 ι1} (e : Ext H ι H1 ι1) : ∀ (d : D) {v : V}, Rel K H ι d v → Rel K H1 ι1 d v
  | .non, v, h => by simpa [Rel] using h
  | .bl _, v, h => by simpa [Rel] using h
  | .int _, v, h => by simpa [Rel] using h
  | .str _, v, h => by simpa [Rel] using h
  | .tup xs, v, h => by
    simp only [Rel] at h ⊢
    obtain ⟨a, vs, e1, hq, hr⟩ := h
    exact ⟨a, vs, e1, hq.ext e, RelL.ext e xs hr⟩
  | .lst xs, v, h => by
    simp only [Rel] at h ⊢
    obtain ⟨a, vs, e1, hq, hr⟩ := h
    exact ⟨a, vs, e1, hq.ext e, RelL.ext e xs hr⟩
  | .edc, v, h => by
    simp only [Rel] at h ⊢
    obtain ⟨a, e1, hq, hr⟩ := h
    exact ⟨a, e1, e.same _ _ hq hr, e.old hq hr⟩
  | .ref n, v, h => by
    simp only [Rel] at h ⊢
    obtain ⟨a, e1, hq⟩ := h
    exact ⟨a, e1, e.at hq⟩
theorem RelL.ext {K H ι H1 ι1} (e : Ext H ι H1 ι1) : ∀ (ds : List D) {vs : List V}, RelL K H ι ds vs → RelL K H1 ι1 ds vs
  | [], vs, h => by simpa [RelL] using h
  | d :: ds, vs, h => by
    simp only [RelL] at h ⊢
    obtain ⟨v, vr, e1, hq, hr⟩ := h
    exact ⟨v, vr, e1, Rel.ext e d hq, RelL.ext e ds hr⟩
end
theorem RelS.ext {K H ι H1 ι1 σd σ} (e : Ext H ι H1 ι1) (h : RelS K H ι σd σ) : RelS K H1 ι1 σd σ :=
  ⟨h.1, fun i d q => let ⟨v, a, b⟩ := h.2 i d q; ⟨v, a, Rel.ext e d b⟩⟩
theorem RelL.length {K H ι} : ∀ {ds : List D} {vs : List V}, RelL K H ι ds vs → ds.length = vs.length
  | [], vs, h => by simp only [RelL] at h; subst h; rfl
  | d :: ds, vs, h => by
    simp only [RelL] at h
    obtain ⟨v, vr, rfl, _, hr⟩ := h
    simp [RelL.length hr]
theorem RelL.append {K H ι} : ∀ {ds es : List D} {vs us : List V}, RelL K H ι ds vs → RelL K H ι es us → RelL K H ι (ds ++ es) (vs ++ us)
  | [], es, vs, us, h, k => by simp only [RelL] at h; subst h; exact k
  | d :: ds, es, vs, us, h, k => by
    simp only [RelL] at h
    obtain ⟨v, vr, rfl, hv, hr⟩ := h
    simp only [List.cons_append, RelL]
    exact ⟨v, _, rfl, hv, RelL.append hr k⟩
theorem RelL.get {K H ι} : ∀ {ds : List D} {vs : List V} {i : Nat} {d : D}, RelL K H ι ds vs → ds[i]? = some d → ∃ v, vs[i]? = some v ∧ Rel K H ι d v
  | [], _, _, _, _, e => by simp at e
  | x :: ds, vs, 0, d, h, e => by
    simp only [RelL] at h
    obtain ⟨v, vr, rfl, hv, hr⟩ := h
    simp at e; subst e; exact ⟨v, rfl, hv⟩
  | x :: ds, vs, i + 1, d, h, e => by
    simp only [RelL] at h
    obtain ⟨v, vr, rfl, hv, hr⟩ := h
    obtain ⟨u, h1, h2⟩ := RelL.get (i := i) hr (by simpa using e)
    exact ⟨u, by simpa using h1, h2⟩
theorem RelL.set {K H ι d v} (hv : Rel K H ι d v) : ∀ {ds : List D} {vs : List V} (i : Nat), RelL K H ι ds vs → RelL K H ι (ds.set i d) (vs.set i v)
  | [], _, _, h => by simp only [RelL] at h; subst h; simp [RelL]
  | x :: ds, vs, 0, h => by
    simp only [RelL] at h
    obtain ⟨u, vr, rfl, hu, hr⟩ := h
    simp only [List.set_cons_zero, RelL]
    exact ⟨v, vr, rfl, hv, hr⟩
  | x :: ds, vs, i + 1, h => by
    simp only [RelL] at h
    obtain ⟨u, vr, rfl, hu, hr⟩ := h
    simp only [List.set_cons_succ, RelL]
    exact ⟨u, _, rfl, hu, RelL.set hv i hr⟩
theorem RelL.take {K H ι} : ∀ {ds : List D} {vs : List V} (n : Nat), RelL K H ι ds vs → RelL K H ι (ds.take n) (vs.take n)
  | _, _, 0, _ => by simp [RelL]
  | [], _, n + 1, h => by simp only [RelL] at h; subst h; simp [RelL]
  | x :: ds, vs, n + 1, h => by
    simp only [RelL] at h
    obtain ⟨u, vr, rfl, hu, hr⟩ := h
    simp only [List.take_succ_cons, RelL]
    exact ⟨u, _, rfl, hu, RelL.take n hr⟩
theorem RelL.drop {K H ι} : ∀ {ds : List D} {vs : List V} (n : Nat), RelL K H ι ds vs → RelL K H ι (ds.drop n) (vs.drop n)
  | _, _, 0, h => h
  | [], _, n + 1, h => by simp only [RelL] at h; subst h; simp [RelL]
  | x :: ds, vs, n + 1, h => by
    simp only [RelL] at h
    obtain ⟨u, vr, rfl, hu, hr⟩ := h
    simp only [List.drop_succ_cons]
    exact RelL.drop n hr
theorem RelG.at {K H ι g} (h : RelG K H ι g) {n : Nat} {xs : List D} {a : Addr} (e : g[n]? = some xs) (ha : ι.ix[n]? = some a) : ∃ vs, H a = some (.lst vs) ∧ RelL K H ι xs vs := by
  obtain ⟨b, vs, hb, h1, h2⟩ := h.at_ n xs e
  rw [ha] at hb; cases hb
  exact ⟨vs, h1, h2⟩
theorem RelG.trk {K H ι g} (h : RelG K H ι g) {a : Addr} (ha : a ∈ ι.ix) : H a ≠ none := by
  obtain ⟨i, hi, e⟩ := List.mem_iff_getElem.mp ha
  have hg : i < g.length := by rw [← h.len]; exact hi
  obtain ⟨b, vs, hb, h1, _⟩ := h.at_ i _ (List.getElem?_eq_getElem hg)
  rw [List.getElem?_eq_getElem hi, e] at hb
  cases hb
  rw [h1]; simp
theorem Ext.lay {H ι p o} (hp : H p = none) : Ext H ι (upd H p o) ι :=
  ⟨fun a u h _ => by rw [upd_ne (ne_of_none h hp)]; exact h, fun a h => by
    by_cases e : a = p
    · subst e; exact absurd hp h
    · rw [upd_ne e]; exact h, ⟨[], by simp, fun _ h => by simp at h⟩, rfl⟩
theorem RelG.ext {K H ι g H1} (h : RelG K H ι g) (e : Ext H ι H1 ι) (k : ∀ a ∈ ι.ix, H1 a = H a) : RelG K H1 ι g :=
  ⟨h.nd, h.len, fun b hb => ⟨(h.hid b hb).1, e.there b (h.hid b hb).2⟩, fun i xs q => by
    obtain ⟨a, vs, h1, h2, h3⟩ := h.at_ i xs q
    exact ⟨a, vs, h1, by rw [k a (List.mem_of_getElem? h1)]; exact h2, RelL.ext e xs h3⟩⟩
theorem RelG.lay {K H ι g p o} (h : RelG K H ι g) (hp : H p = none) : RelG K (upd H p o) ι g :=
  h.ext (Ext.lay hp) fun a ha => upd_ne fun e => by subst e; exact h.trk ha hp
theorem RelG.fresh {K H ι g p} (h : RelG K H ι g) (hp : H p = none) : p ∉ ι.ix := fun ha => h.trk ha hp
theorem RelG.freshH {K H ι g p} (h : RelG K H ι g) (hp : H p = none) : p ∉ ι.hd := fun ha => (h.hid p ha).2 hp
theorem Ext.push {H ι p o} (hp : H p = none) : Ext H ι (upd H p o) ⟨ι.ix ++ [p], ι.hd⟩ := by
  have e := Ext.lay (ι := ι) (o := o) hp
  exact ⟨e.same, e.there, ⟨[p], rfl, fun a ha => by simp at ha; subst ha; exact hp⟩, rfl⟩
theorem RelG.push {K H ι g p xs vs} (h : RelG K H ι g) (hp : H p = none) (r : RelL K H ι xs vs) : RelG K (upd H p (.lst vs)) ⟨ι.ix ++ [p], ι.hd⟩ (g ++ [xs]) := by
  have hn := h.fresh hp
  refine ⟨?_, by simp [h.len], fun b hb => ⟨fun z => ?_, (Ext.push (ι := ι) (o := .lst vs) hp).there b (h.hid b hb).2⟩, fun i ys q => ?_⟩
  · show (ι.ix ++ [p]).Nodup
    rw [List.nodup_append]
    refine ⟨h.nd, by simp, fun a ha b hb => ?_⟩
    simp at hb; subst hb
    intro e; subst e; exact hn ha
  · rcases List.mem_append.mp z with z | z
    · exact (h.hid b hb).1 z
    · simp at z; subst z; exact (h.hid _ hb).2 hp
  · by_cases hi : i < g.length
    · rw [List.getElem?_append_left hi] at q
      obtain ⟨a, us, h1, h2, h3⟩ := h.at_ i ys q
      refine ⟨a, us, (by show (ι.ix ++ [p])[i]? = some a; rw [List.getElem?_append_left (by rw [h.len]; exact hi)]; exact h1), ?_, RelL.ext (Ext.push hp) ys h3⟩
      rw [upd_ne (ne_of_none h2 hp)]; exact h2
    · rw [List.getElem?_append_right (by omega)] at q
      have hi0 : i - g.length = 0 := by
        cases e : i - g.length with
        | zero => rfl
        | succ k => rw [e] at q; simp at q
      rw [hi0] at q
      have e : xs = ys := by simpa using q
      subst e
      refine ⟨p, vs, ?_, upd_same, RelL.ext (Ext.push hp) xs r⟩
      show (ι.ix ++ [p])[i]? = some p
      rw [List.getElem?_append_right (by rw [h.len]; omega), h.len, hi0]; rfl
theorem Ext.put {H ι} {n : Nat} {a vs ws} (ha : ι.ix[n]? = some a) (h : H a = some (.lst vs)) : Ext H ι (upd H a (.lst ws)) ι :=
  ⟨fun b o q nb => by rw [upd_ne (fun e => nb (by rw [e]; exact List.mem_of_getElem? ha))]; exact q, fun b q => by
    by_cases e : b = a
    · subst e; rw [upd_same]; simp
    · rw [upd_ne e]; exact q, ⟨[], by simp, fun _ z => by simp at z⟩, rfl⟩
theorem RelG.put {K H ι g} {n : Nat} {a vs xs ws} (h : RelG K H ι g) (ha : ι.ix[n]? = some a) (hv : H a = some (.lst vs)) (r : RelL K H ι xs ws) : RelG K (upd H a (.lst ws)) ι (g.set n xs) := by
  refine ⟨h.nd, by simp [h.len], fun b hb => ⟨(h.hid b hb).1, (Ext.put ha hv).there b (h.hid b hb).2⟩, fun i ys q => ?_⟩
  by_cases e : i = n
  · subst e
    have hi : i < g.length := by rw [← h.len]; exact (List.getElem?_eq_some_iff.mp ha).1
    rw [List.getElem?_set_self hi] at q
    cases q
    exact ⟨a, ws, ha, upd_same, RelL.ext (Ext.put ha hv) _ r⟩
  · rw [List.getElem?_set_ne (Ne.symm e)] at q
    obtain ⟨b, us, h1, h2, h3⟩ := h.at_ i ys q
    refine ⟨b, us, h1, ?_, RelL.ext (Ext.put ha hv) ys h3⟩
    rw [upd_ne ?_]
    · exact h2
    · intro z
      subst z
      obtain ⟨hi, e1⟩ := List.getElem?_eq_some_iff.mp h1
      obtain ⟨hn, e2⟩ := List.getElem?_eq_some_iff.mp ha
      exact e ((List.getElem_inj h.nd).mp (e1.trans e2.symm))
noncomputable def Ix.hide (ι : Ix) (p : Addr) : Ix := ⟨ι.ix, p :: ι.hd⟩
mutual
theorem Rel.show {K H ι p} : ∀ (d : D) {v : V}, Rel K H (Ix.hide ι p) d v → Rel K H ι d v
  | .non, v, h => by simpa [Rel] using h
  | .bl _, v, h => by simpa [Rel] using h
  | .int _, v, h => by simpa [Rel] using h
  | .str _, v, h => by simpa [Rel] using h
  | .tup xs, v, h => by
    simp only [Rel] at h ⊢
    obtain ⟨a, vs, e1, hq, hr⟩ := h
    exact ⟨a, vs, e1, hq, RelL.show xs hr⟩
  | .lst xs, v, h => by
    simp only [Rel] at h ⊢
    obtain ⟨a, vs, e1, hq, hr⟩ := h
    refine ⟨a, vs, e1, ?_, RelL.show xs hr⟩
    rcases hq with ⟨h, n, k⟩ | h
    · exact .inl ⟨h, n, fun z => k (List.mem_cons_of_mem _ z)⟩
    · exact .inr h
  | .edc, v, h => by simpa [Rel, Ix.hide] using h
  | .ref n, v, h => by simpa [Rel, Ix.hide] using h
theorem RelL.show {K H ι p} : ∀ (ds : List D) {vs : List V}, RelL K H (Ix.hide ι p) ds vs → RelL K H ι ds vs
  | [], vs, h => by simpa [RelL] using h
  | d :: ds, vs, h => by
    simp only [RelL] at h ⊢
    obtain ⟨v, vr, e1, hq, hr⟩ := h
    exact ⟨v, vr, e1, Rel.show d hq, RelL.show ds hr⟩
end
mutual
theorem Rel.hide {K H ι p o} (hp : H p = none) : ∀ (d : D) {v : V}, Rel K H ι d v → Rel K (upd H p o) (Ix.hide ι p) d v
  | .non, v, h => by simpa [Rel] using h
  | .bl _, v, h => by simpa [Rel] using h
  | .int _, v, h => by simpa [Rel] using h
  | .str _, v, h => by simpa [Rel] using h
  | .tup xs, v, h => by
    simp only [Rel] at h ⊢
    obtain ⟨a, vs, e1, hq, hr⟩ := h
    refine ⟨a, vs, e1, ?_, RelL.hide hp xs hr⟩
    rcases hq with ⟨h | ⟨u, h⟩, n⟩ | h
    · exact .inl ⟨.inl (by rw [upd_ne (ne_of_none h hp)]; exact h), n⟩
    · exact .inl ⟨.inr ⟨u, by rw [upd_ne (ne_of_none h hp)]; exact h⟩, n⟩
    · exact .inr h
  | .lst xs, v, h => by
    simp only [Rel] at h ⊢
    obtain ⟨a, vs, e1, hq, hr⟩ := h
    refine ⟨a, vs, e1, ?_, RelL.hide hp xs hr⟩
    have out : ∀ {u : HO}, H a = some u → a ∉ ι.hd → a ∉ (Ix.hide ι p).hd := fun h k z => by
      rcases List.mem_cons.mp z with z | z
      · exact ne_of_none h hp z
      · exact k z
    rcases hq with ⟨h | ⟨u, h⟩, n, k⟩ | h
    · exact .inl ⟨.inl (by rw [upd_ne (ne_of_none h hp)]; exact h), n, out h k⟩
    · exact .inl ⟨.inr ⟨u, by rw [upd_ne (ne_of_none h hp)]; exact h⟩, n, out h k⟩
    · exact .inr h
  | .edc, v, h => by
    simp only [Rel] at h ⊢
    obtain ⟨a, e1, hq, hr⟩ := h
    exact ⟨a, e1, by rw [upd_ne (ne_of_none hq hp)]; exact hq, hr⟩
  | .ref n, v, h => by simpa [Rel, Ix.hide] using h
theorem RelL.hide {K H ι p o} (hp : H p = none) : ∀ (ds : List D) {vs : List V}, RelL K H ι ds vs → RelL K (upd H p o) (Ix.hide ι p) ds vs
  | [], vs, h => by simpa [RelL] using h
  | d :: ds, vs, h => by
    simp only [RelL] at h ⊢
    obtain ⟨v, vr, e1, hq, hr⟩ := h
    exact ⟨v, vr, e1, Rel.hide hp d hq, RelL.hide hp ds hr⟩
end
mutual
theorem Rel.grow {K H ι p us ws} (hp : H p = some (.lst us)) : ∀ (d : D) {v : V}, Rel K H (Ix.hide ι p) d v → Rel K (upd H p (.lst ws)) (Ix.hide ι p) d v
  | .non, v, h => by simpa [Rel] using h
  | .bl _, v, h => by simpa [Rel] using h
  | .int _, v, h => by simpa [Rel] using h
  | .str _, v, h => by simpa [Rel] using h
  | .tup xs, v, h => by
    simp only [Rel] at h ⊢
    obtain ⟨a, vs, e1, hq, hr⟩ := h
    refine ⟨a, vs, e1, ?_, RelL.grow hp xs hr⟩
    rcases hq with ⟨h | ⟨u, h⟩, n⟩ | h
    · exact .inl ⟨.inl (by rw [upd_ne (ne_of h hp (by simp))]; exact h), n⟩
    · exact .inl ⟨.inr ⟨u, by rw [upd_ne (ne_of h hp (by simp))]; exact h⟩, n⟩
    · exact .inr h
  | .lst xs, v, h => by
    simp only [Rel] at h ⊢
    obtain ⟨a, vs, e1, hq, hr⟩ := h
    refine ⟨a, vs, e1, ?_, RelL.grow hp xs hr⟩
    rcases hq with ⟨h, n, k⟩ | h
    · have ne : a ≠ p := fun z => k (by rw [z]; exact List.mem_cons_self)
      rcases h with h | ⟨u, h⟩
      · exact .inl ⟨.inl (by rw [upd_ne ne]; exact h), n, k⟩
      · exact .inl ⟨.inr ⟨u, by rw [upd_ne ne]; exact h⟩, n, k⟩
    · exact .inr h
  | .edc, v, h => by
    simp only [Rel] at h ⊢
    obtain ⟨a, e1, hq, hr⟩ := h
    exact ⟨a, e1, by rw [upd_ne (ne_of hq hp (by simp))]; exact hq, hr⟩
  | .ref n, v, h => by simpa [Rel, Ix.hide] using h
theorem RelL.grow {K H ι p us ws} (hp : H p = some (.lst us)) : ∀ (ds : List D) {vs : List V}, RelL K H (Ix.hide ι p) ds vs → RelL K (upd H p (.lst ws)) (Ix.hide ι p) ds vs
  | [], vs, h => by simpa [RelL] using h
  | d :: ds, vs, h => by
    simp only [RelL] at h ⊢
    obtain ⟨v, vr, e1, hq, hr⟩ := h
    exact ⟨v, vr, e1, Rel.grow hp d hq, RelL.grow hp ds hr⟩
end
theorem RelG.hide {K H ι p o g} (hp : H p = none) (h : RelG K H ι g) : RelG K (upd H p o) (Ix.hide ι p) g :=
  ⟨h.nd, h.len, fun b hb => by
    rcases List.mem_cons.mp hb with rfl | hb
    · exact ⟨h.fresh hp, by rw [upd_same]; simp⟩
    · refine ⟨(h.hid b hb).1, ?_⟩
      by_cases e : b = p
      · subst e; rw [upd_same]; simp
      · rw [upd_ne e]; exact (h.hid b hb).2, fun i xs q => by
    obtain ⟨a, vs, h1, h2, h3⟩ := h.at_ i xs q
    exact ⟨a, vs, h1, by rw [upd_ne (ne_of_none h2 hp)]; exact h2, RelL.hide hp xs h3⟩⟩
theorem RelG.show {K H ι p g} (h : RelG K H (Ix.hide ι p) g) : RelG K H ι g :=
  ⟨h.nd, h.len, fun b hb => h.hid b (List.mem_cons_of_mem _ hb), fun i xs q => by
    obtain ⟨a, vs, h1, h2, h3⟩ := h.at_ i xs q
    exact ⟨a, vs, h1, h2, RelL.show xs h3⟩⟩
theorem RelG.grow {K H ι p us ws g} (hp : H p = some (.lst us)) (h : RelG K H (Ix.hide ι p) g) : RelG K (upd H p (.lst ws)) (Ix.hide ι p) g :=
  ⟨h.nd, h.len, fun b hb => ⟨(h.hid b hb).1, by
      by_cases e : b = p
      · subst e; rw [upd_same]; simp
      · rw [upd_ne e]; exact (h.hid b hb).2⟩, fun i xs q => by
    obtain ⟨a, vs, h1, h2, h3⟩ := h.at_ i xs q
    refine ⟨a, vs, h1, ?_, RelL.grow hp xs h3⟩
    rw [upd_ne (fun e => (h.hid p List.mem_cons_self).1 (by rw [← e]; exact List.mem_of_getElem? h1))]; exact h2⟩
end L3
namespace L3
open PySem PySem.Spec PyProof.Rows L2
noncomputable abbrev FE := Sg → G → Option (D × G)
noncomputable abbrev FT := Sg → G → Option (Bool × G)
noncomputable abbrev FA := Sg → G → Option (List D × G)
noncomputable def Post (K : PySem.W.Frag) (H : Hp) (ι : Ix) (d : D) (g' : G) (Q : VK) : Prop := ∀ H' ι' v, Ext H ι H' ι' → RelG K H' ι' g' → Rel K H' ι' d v → Q v H'
noncomputable def PostL (K : PySem.W.Frag) (H : Hp) (ι : Ix) (ds : List D) (g' : G) (Q : List V → Hp → Prop) : Prop := ∀ H' ι' vs, Ext H ι H' ι' → RelG K H' ι' g' → RelL K H' ι' ds vs → Q vs H'
noncomputable def PostB (K : PySem.W.Frag) (H : Hp) (ι : Ix) (g' : G) (Q : Hp → Prop) : Prop := ∀ H' ι', Ext H ι H' ι' → RelG K H' ι' g' → Q H'
inductive tD (K : PySem.W.Frag) (f : FE)  (σ : L2.St) (H : Hp) (Q : VK) : Prop
  | mk (ι : Ix) (σd : Sg) (g : G) (d : D) (g' : G) (h0 : RelG K H ι g) (h1 : RelS K H ι σd σ) (h2 : f σd g = some (d, g')) (h3 : Post K H ι d g' Q) : tD K f σ H Q
inductive tDA (K : PySem.W.Frag) (f : FA)  (σ : L2.St) (H : Hp) (Q : (List V → Hp → Prop)) : Prop
  | mk (ι : Ix) (σd : Sg) (g : G) (d : List D) (g' : G) (h0 : RelG K H ι g) (h1 : RelS K H ι σd σ) (h2 : f σd g = some (d, g')) (h3 : PostL K H ι d g' Q) : tDA K f σ H Q
inductive tDT (K : PySem.W.Frag) (f : FT)  (σ : L2.St) (H : Hp) (Q : (Bool → Hp → Prop)) : Prop
  | mk (ι : Ix) (σd : Sg) (g : G) (b : Bool) (g' : G) (h0 : RelG K H ι g) (h1 : RelS K H ι σd σ) (h2 : f σd g = some (b, g')) (h3 : PostB K H ι g' (Q b)) : tDT K f σ H Q
structure DE (X : Cx) (e : Expr) (f : FE) : Prop where of ::
  un : PE X e (tD X.K f)
structure DA (X : Cx) (es : List Expr) (f : FA) : Prop where of ::
  un : PA X es (tDA X.K f)
structure DT (X : Cx) (e : Expr) (f : FT) : Prop where of ::
  un : PT X e (tDT X.K f)
structure DW (X : Cx) (e : Expr) (f : FT) : Prop where of ::
  un : PW X e (tDT X.K f)
theorem PE.imp {X : Cx} {e : Expr} {t t' : TE} (h : PE X e t) (i : ∀ σ H Q, t' σ H Q → t σ H Q) : PE X e t' := fun pins s σ H Q I q => h pins s σ H Q I (i σ H Q q)
theorem PT.imp {X : Cx} {e : Expr} {t t' : TT} (h : PT X e t) (i : ∀ σ H Q, t' σ H Q → t σ H Q) : PT X e t' := fun pins s σ H Q I q => h pins s σ H Q I (i σ H Q q)
theorem PW.imp {X : Cx} {e : Expr} {t t' : TT} (h : PW X e t) (i : ∀ σ H Q, t' σ H Q → t σ H Q) : PW X e t' := fun w pins s σ H Q I q => h w pins s σ H Q I (i σ H Q q)
theorem PA.imp {X : Cx} {e : List Expr} {t t' : TA} (h : PA X e t) (i : ∀ σ H Q, t' σ H Q → t σ H Q) : PA X e t' := fun pos pins s σ H Q I q => h pos pins s σ H Q I (i σ H Q q)
theorem Post.mono {K H ι H1 ι1 d g' Q} (e : Ext H ι H1 ι1) (p : Post K H ι d g' Q) : Post K H1 ι1 d g' Q := fun H' ι' v e' r q => p H' ι' v (e.trans e') r q
theorem PostB.mono {K H ι H1 ι1 g' Q} (e : Ext H ι H1 ι1) (p : PostB K H ι g' Q) : PostB K H1 ι1 g' Q := fun H' ι' e' r => p H' ι' (e.trans e') r
theorem tD.bind {K f} {σ : L2.St} {H : Hp} {Q : VK} {ι σd g d g'} (G0 : RelG K H ι g) (S0 : RelS K H ι σd σ) (h : f σd g = some (d, g'))
    (k : ∀ H1 ι1 v, Ext H ι H1 ι1 → RelG K H1 ι1 g' → RelS K H1 ι1 σd σ → Rel K H1 ι1 d v → Q v H1) : tD K f σ H Q :=
  ⟨ι, σd, g, d, g', G0, S0, h, fun H' ι' v e r q => k H' ι' v e r (S0.ext e) q⟩
theorem tDA.bind {K f} {σ : L2.St} {H : Hp} {Q : List V → Hp → Prop} {ι σd g d g'} (G0 : RelG K H ι g) (S0 : RelS K H ι σd σ) (h : f σd g = some (d, g'))
    (k : ∀ H1 ι1 v, Ext H ι H1 ι1 → RelG K H1 ι1 g' → RelS K H1 ι1 σd σ → RelL K H1 ι1 d v → Q v H1) : tDA K f σ H Q :=
  ⟨ι, σd, g, d, g', G0, S0, h, fun H' ι' v e r q => k H' ι' v e r (S0.ext e) q⟩
theorem tDT.bind {K f} {σ : L2.St} {H : Hp} {Q : Bool → Hp → Prop} {ι σd g d g'} (G0 : RelG K H ι g) (S0 : RelS K H ι σd σ) (h : f σd g = some (d, g'))
    (k : ∀ H1 ι1, Ext H ι H1 ι1 → RelG K H1 ι1 g' → RelS K H1 ι1 σd σ → Q d H1) : tDT K f σ H Q :=
  ⟨ι, σd, g, d, g', G0, S0, h, fun H' ι' e r => k H' ι' e r (S0.ext e)⟩
section
variable {X : Cx} {a b c e : Expr} {es rest : List Expr} {pos : Pos} {fa fb fc : FE} {fr : FA} {ga gb : FT}
noncomputable def fC (d : D) : FE := fun _ g => some (d, g)
noncomputable def fVar (i : Nat) : FE := fun σ g => match σ[i]? with | some (some d) => some (d, g) | _ => none
theorem de_int {i j pos} : DE X (.Constant (.int i) j pos) (fC (.int i)) := .of (PE.imp pe_int fun σ H Q h => by
  obtain ⟨ι, σd, g, d, g', G0, S0, h, p⟩ := h
  cases h; exact p H ι _ Ext.refl G0 (by simp [Rel]))
theorem de_str {i j pos} : DE X (.Constant (.str i) j pos) (fC (.str i)) := .of (PE.imp pe_str fun σ H Q h => by
  obtain ⟨ι, σd, g, d, g', G0, S0, h, p⟩ := h
  cases h; exact p H ι _ Ext.refl G0 (by simp [Rel]))
theorem de_bl {i j pos} : DE X (.Constant (.bool i) j pos) (fC (.bl i)) := .of (PE.imp pe_bl fun σ H Q h => by
  obtain ⟨ι, σd, g, d, g', G0, S0, h, p⟩ := h
  cases h; exact p H ι _ Ext.refl G0 (by simp [Rel]))
theorem de_non {j pos} : DE X (.Constant .none j pos) (fC .non) := .of (PE.imp pe_non fun σ H Q h => by
  obtain ⟨ι, σd, g, d, g', G0, S0, h, p⟩ := h
  cases h; exact p H ι _ Ext.refl G0 (by simp [Rel]))
theorem de_var (i : Nat) {x : Str} {pos : Pos} (hN : X.N[i]? = some x := by rfl) (hv : Vis X.env.scope x := by first | exact Or.inl rfl | exact Or.inr (Or.inl rfl) | exact Or.inr (Or.inr rfl)) (hd : (x == ("__debug__" : Str)) = false := by decide)
    (hcd : (x == ("__classdict__" : Str)) = false := by decide) : DE X (.Name x pos) (fVar i) := .of (PE.imp (pe_var hN hv hd hcd) fun σ H Q h => by
  obtain ⟨ι, σd, g, d, g', G0, S0, h, p⟩ := h
  unfold fVar at h
  split at h
  · rename_i d' e
    obtain ⟨rfl, rfl⟩ : d' = d ∧ g = g' := by cases h; exact ⟨rfl, rfl⟩
    obtain ⟨v, h1, h2⟩ := S0.2 i _ e
    exact ⟨v, h1, p H ι v Ext.refl G0 h2⟩
  · cases h)
inductive rD2 (K : PySem.W.Frag) (o : D → D → G → Option (D × G))  (x : V) (y : V) (H : Hp) (Q : VK) : Prop
  | mk (ι : Ix) (g : G) (d1 : D) (d2 : D) (d : D) (g' : G) (h0 : RelG K H ι g) (h1 : Rel K H ι d1 x) (h2 : Rel K H ι d2 y) (h3 : o d1 d2 g = some (d, g')) (h4 : Post K H ι d g' Q) : rD2 K o x y H Q
inductive rD1 (K : PySem.W.Frag) (o : D → G → Option (D × G))  (x : V) (H : Hp) (Q : VK) : Prop
  | mk (ι : Ix) (g : G) (d1 : D) (d : D) (g' : G) (h0 : RelG K H ι g) (h1 : Rel K H ι d1 x) (h2 : o d1 g = some (d, g')) (h3 : Post K H ι d g' Q) : rD1 K o x H Q
inductive rDL (K : PySem.W.Frag) (o : List D → G → Option (D × G))  (xs : List V) (H : Hp) (Q : VK) : Prop
  | mk (ι : Ix) (g : G) (ds : List D) (d : D) (g' : G) (h0 : RelG K H ι g) (h1 : RelL K H ι ds xs) (h2 : o ds g = some (d, g')) (h3 : Post K H ι d g' Q) : rDL K o xs H Q
noncomputable def fOp (o : D → D → G → Option (D × G)) (fa fb : FE) : FE := fun σ g => (fa σ g).bind fun r => (fb σ r.2).bind fun q => o r.1 q.1 q.2
noncomputable def fUn (o : D → G → Option (D × G)) (fa : FE) : FE := fun σ g => (fa σ g).bind fun r => o r.1 r.2
theorem bind_some {α β : Type} {x : Option α} {f : α → Option β} {b : β} (h : x.bind f = some b) : ∃ a, x = some a ∧ f a = some b := by
  cases x with
  | none => cases h
  | some a => exact ⟨a, rfl, h⟩
theorem tOp_of {K} {o : D → D → G → Option (D × G)} {σ : L2.St} {H : Hp} {Q : VK} (h : tD K (fOp o fa fb) σ H Q) : tOp (rD2 K o) (tD K fa) (tD K fb) σ H Q := by
  obtain ⟨ι, σd, g, d, g', G0, S0, h, p⟩ := h
  obtain ⟨⟨d1, g1⟩, h1, h⟩ := bind_some h
  obtain ⟨⟨d2, g2⟩, h2, h⟩ := bind_some h
  refine tD.bind G0 S0 h1 fun H1 ι1 v e1 G1 S1 r1 => ?_
  refine tD.bind G1 S1 h2 fun H2 ι2 u e2 G2 S2 r2 => ?_
  exact ⟨ι2, g2, d1, d2, d, g', G2, Rel.ext e2 _ r1, r2, h, p.mono (e1.trans e2)⟩
theorem de_op {op : Operator} {o : D → D → G → Option (D × G)} (ho : OpR X (binaryOp op) (rD2 X.K o)) (ha : DE X a fa) (hb : DE X b fb) : DE X (.BinOp a op b pos) (fOp o fa fb) := .of (
  PE.imp (pe_op ho ha.un hb.un) fun σ H Q h => tOp_of h)
theorem de_cmp {op : CmpOp} {o : D → D → G → Option (D × G)} (ho : OpR X (compareOp op) (rD2 X.K o)) (ha : DE X a fa) (hb : DE X b fb) (hm : behindInMarks op b = false := by first | exact nomark _ | with_unfolding_all rfl) : DE X (.Compare a [op] [b] pos) (fOp o fa fb) := .of (
  PE.imp (pe_cmpR ho ha.un hb.un hm) fun σ H Q h => tOp_of h)
theorem de_un {op : UnaryOp} {o : D → G → Option (D × G)} (ho : UnR X (unaryOp op) (rD1 X.K o)) (ha : DE X a fa) : DE X (.UnaryOp op a pos) (fUn o fa) := .of (
  PE.imp (pe_un ho ha.un) fun σ H Q h => by
    obtain ⟨ι, σd, g, d, g', G0, S0, h, p⟩ := h
    obtain ⟨⟨d1, g1⟩, h1, h⟩ := bind_some h
    refine tD.bind G0 S0 h1 fun H1 ι1 v e1 G1 S1 r1 => ?_
    exact ⟨ι1, g1, d1, d, g', G1, r1, h, p.mono e1⟩)
noncomputable def asB (r : Option (D × G)) : Option (Bool × G) := r.bind fun r => match r.1 with | .bl b => some (b, r.2) | _ => none
theorem asB_some {r : Option (D × G)} {b : Bool} {g : G} (h : asB r = some (b, g)) : r = some (.bl b, g) := by
  obtain ⟨⟨d, g1⟩, h1, h⟩ := bind_some h
  cases d with
  | bl k => cases h; exact h1
  | _ => cases h
noncomputable def fTest (f : FE) : FT := fun σ g => asB (f σ g)
theorem tTest_of {K f} {σ : L2.St} {H : Hp} {Q : Bool → Hp → Prop} (h : tDT K (fTest f) σ H Q) : tTest (tD K f) σ H Q := by
  obtain ⟨ι, σd, g, b, g', G0, S0, h, p⟩ := h
  obtain ⟨⟨d, g1⟩, h1, h⟩ := bind_some h
  cases d with
  | bl k =>
    cases h
    exact tD.bind G0 S0 h1 fun H1 ι1 v e1 G1 S1 r1 => ⟨b, by simpa [Rel] using r1, p H1 ι1 e1 G1⟩
  | _ => cases h
theorem tTest_mono {t t' : TE} (i : ∀ σ H Q, t' σ H Q → t σ H Q) {σ : L2.St} {H : Hp} {Q : Bool → Hp → Prop} (h : tTest t' σ H Q) : tTest t σ H Q := i σ H _ h
theorem dt_cmp {op : CmpOp} {o : D → D → G → Option (D × G)} (ho : OpR X (compareOp op) (rD2 X.K o)) (ha : DE X a fa) (hb : DE X b fb) (hm : behindInMarks op b = false := by first | exact nomark _ | with_unfolding_all rfl) : DT X (.Compare a [op] [b] pos) (fTest (fOp o fa fb)) := .of (
  PT.imp (pt_cmpR ho ha.un hb.un hm) fun σ H Q h => tTest_mono (fun _ _ _ => tOp_of) (tTest_of h))
noncomputable def fChain (o o' : D → D → G → Option (D × G)) (fa fb fc : FE) : FE := fun σ g => (fa σ g).bind fun r => (fb σ r.2).bind fun q => (asB (o r.1 q.1 q.2)).bind fun k =>
  if k.1 = true then (fc σ k.2).bind fun w => o' q.1 w.1 w.2 else some (.bl false, k.2)
theorem tChain_of {K} {o o' : D → D → G → Option (D × G)} {σ : L2.St} {H : Hp} {Q : VK} (h : tD K (fChain o o' fa fb fc) σ H Q) : tChain (rD2 K o) (rD2 K o') (tD K fa) (tD K fb) (tD K fc) σ H Q := by
  obtain ⟨ι, σd, g, d, g', G0, S0, h, p⟩ := h
  obtain ⟨⟨d1, g1⟩, h1, h⟩ := bind_some h
  obtain ⟨⟨d2, g2⟩, h2, h⟩ := bind_some h
  obtain ⟨⟨k, g3⟩, h3, h⟩ := bind_some h
  have h3 := asB_some h3
  refine tD.bind G0 S0 h1 fun H1 ι1 v e1 G1 S1 r1 => ?_
  refine tD.bind G1 S1 h2 fun H2 ι2 u e2 G2 S2 r2 => ?_
  refine ⟨ι2, g2, d1, d2, _, g3, G2, Rel.ext e2 _ r1, r2, h3, fun H3 ι3 z e3 G3 r3 => ⟨k, by simpa [Rel] using r3, ?_⟩⟩
  clear h3
  cases k with
  | true =>
    simp only [if_true] at h ⊢
    obtain ⟨⟨d4, g4⟩, h4, h⟩ := bind_some h
    refine tD.bind G3 (S2.ext e3) h4 fun H4 ι4 w' e4 G4 S4 r4 => ?_
    exact ⟨ι4, g4, d2, d4, d, g', G4, Rel.ext (e3.trans e4) _ r2, r4, h, p.mono (e1.trans (e2.trans (e3.trans e4)))⟩
  | false =>
    simp only [Bool.false_eq_true, if_false] at h ⊢
    cases h
    exact p H3 ι3 _ (e1.trans (e2.trans e3)) G3 (by simp [Rel])
theorem de_chain {op op' : CmpOp} {o o' : D → D → G → Option (D × G)} (ho : OpR X (compareOp op) (rD2 X.K o)) (ho' : OpR X (compareOp op') (rD2 X.K o')) (ha : DE X a fa) (hb : DE X b fb) (hc : DE X c fc)
    (hm : lastMarks [op, op'] [b, c] = false := by with_unfolding_all rfl) : DE X (.Compare a [op, op'] [b, c] pos) (fChain o o' fa fb fc) := .of (
  PE.imp (pe_chain ho ho' ha.un hb.un hc.un hm) fun σ H Q h => tChain_of h)
theorem dt_chain {op op' : CmpOp} {o o' : D → D → G → Option (D × G)} (ho : OpR X (compareOp op) (rD2 X.K o)) (ho' : OpR X (compareOp op') (rD2 X.K o')) (ha : DE X a fa) (hb : DE X b fb) (hc : DE X c fc)
    (hm : lastMarks [op, op'] [b, c] = false := by with_unfolding_all rfl) : DT X (.Compare a [op, op'] [b, c] pos) (fTest (fChain o o' fa fb fc)) := .of (
  PT.imp (pt_chain ho ho' ha.un hb.un hc.un hm) fun σ H Q h => tTest_mono (fun _ _ _ => tChain_of) (tTest_of h))
noncomputable def truD (d : D) (g : G) : Option Bool := match d with
  | .non => some false
  | .bl b => some b
  | .int i => some (i != 0)
  | .tup xs => some (!xs.isEmpty)
  | .lst xs => some (!xs.isEmpty)
  | .edc => some false
  | .ref n => match g[n]? with | some xs => some (!xs.isEmpty) | none => none
  | .str _ => none
noncomputable def fTru (f : FE) : FT := fun σ g => (f σ g).bind fun r => (truD r.1 r.2).map fun b => (b, r.2)
theorem RelL.isEmpty {K H ι} {ds : List D} {vs : List V} (h : RelL K H ι ds vs) : ds.isEmpty = vs.isEmpty := by
  have := h.length
  cases ds <;> cases vs <;> simp_all
theorem truV_of {K H ι g d v b} (G0 : RelG K H ι g) (r : Rel K H ι d v) (h : truD d g = some b) : TruV K v H b := by
  cases d with
  | non => simp only [Rel] at r; subst r; cases h; rfl
  | bl x => simp only [Rel] at r; subst r; cases h; rfl
  | int x => simp only [Rel] at r; subst r; cases h; rfl
  | str x => cases h
  | tup xs =>
    simp only [Rel] at r; obtain ⟨a, vs, rfl, hq, hr⟩ := r; cases h
    exact .inr (.inl ⟨vs, hq.sq, by rw [hr.isEmpty]⟩)
  | lst xs =>
    simp only [Rel] at r; obtain ⟨a, vs, rfl, hq, hr⟩ := r; cases h
    exact .inl ⟨vs, hq.sq, by rw [hr.isEmpty]⟩
  | edc =>
    simp only [Rel] at r; obtain ⟨a, rfl, hq, _⟩ := r; cases h
    exact .inr (.inr ⟨[], hq, rfl⟩)
  | ref n =>
    simp only [Rel] at r; obtain ⟨a, rfl, ha⟩ := r
    simp only [truD] at h
    split at h
    · rename_i xs e
      cases h
      obtain ⟨vs, h1, h2⟩ := G0.at e ha
      exact .inl ⟨vs, .of h1, by rw [h2.isEmpty]⟩
    · cases h
theorem dt_tru (ha : DE X a fa) (he : ∀ whole, isTrue a X.env whole = (do let v ← whole; standAt a.pos; holding [v] (truthy v)) := by intro _; rfl) : DT X a (fTru fa) := .of (
  PT.imp (pt_truth ha.un he) fun σ H Q h => by
    obtain ⟨ι, σd, g, b, g', G0, S0, h, p⟩ := h
    obtain ⟨⟨d, g1⟩, h1, h⟩ := bind_some h
    cases ht : truD d g1 with
    | none => rw [ht] at h; cases h
    | some k =>
      rw [ht] at h; cases h
      exact tD.bind G0 S0 h1 fun H1 ι1 v e1 G1 S1 r1 => ⟨b, truV_of G1 r1 ht, p H1 ι1 e1 G1⟩)
noncomputable def fAnd (ga gb : FT) : FT := fun σ g => (ga σ g).bind fun r => if r.1 = true then gb σ r.2 else some (false, r.2)
noncomputable def fOr (ga gb : FT) : FT := fun σ g => (ga σ g).bind fun r => if r.1 = true then some (true, r.2) else gb σ r.2
noncomputable def fNot (ga : FT) : FT := fun σ g => (ga σ g).bind fun r => some (!r.1, r.2)
theorem dw_and1 (ha : DT X a ga) : DW X (.BoolOp .And [a] pos) ga := .of (pw_and1 ha.un)
theorem dw_and (ha : DT X a ga) (hb : DW X (.BoolOp .And (b :: rest) pos) gb) : DW X (.BoolOp .And (a :: b :: rest) pos) (fAnd ga gb) := .of (
  PW.imp (pw_and ha.un hb.un) fun σ H Q h => by
    obtain ⟨ι, σd, g, k, g', G0, S0, h, p⟩ := h
    obtain ⟨⟨k1, g1⟩, h1, h⟩ := bind_some h
    refine tDT.bind G0 S0 h1 fun H1 ι1 e1 G1 S1 => ?_
    cases k1 with
    | true => simp only [if_true] at h ⊢; exact ⟨ι1, σd, g1, k, g', G1, S1, h, p.mono e1⟩
    | false => simp only [Bool.false_eq_true, if_false] at h ⊢; cases h; exact p H1 ι1 e1 G1)
theorem DW.dt (h : DW X a ga) : DT X a ga := .of (PW.pt h.un)
theorem dt_not (ha : DT X a ga) : DT X (.UnaryOp .Not a pos) (fNot ga) := .of (
  PT.imp (pt_not ha.un) fun σ H Q h => by
    obtain ⟨ι, σd, g, k, g', G0, S0, h, p⟩ := h
    obtain ⟨⟨k1, g1⟩, h1, h⟩ := bind_some h
    cases h
    exact tDT.bind G0 S0 h1 fun H1 ι1 e1 G1 S1 => p H1 ι1 e1 G1)
noncomputable def fAndV (fa fb : FE) : FE := fun σ g => (asB (fa σ g)).bind fun r => if r.1 = true then fb σ r.2 else some (.bl false, r.2)
noncomputable def fOrV (fa fb : FE) : FE := fun σ g => (asB (fa σ g)).bind fun r => if r.1 = true then some (.bl true, r.2) else fb σ r.2
noncomputable def fNotV (fa : FE) : FE := fun σ g => (asB (fa σ g)).bind fun r => some (.bl (!r.1), r.2)
theorem de_one {op} (h : DE X a fa) : DE X (.BoolOp op [a] pos) fa := .of (pe_one h.un)
theorem de_and (ha : DE X a fa) (hb : DE X (.BoolOp .And (b :: rest) pos) fb) : DE X (.BoolOp .And (a :: b :: rest) pos) (fAndV fa fb) := .of (
  PE.imp (pe_and ha.un hb.un) fun σ H Q h => by
    obtain ⟨ι, σd, g, d, g', G0, S0, h, p⟩ := h
    obtain ⟨⟨k1, g1⟩, h1, h⟩ := bind_some h
    have h1 := asB_some h1
    refine tD.bind G0 S0 h1 fun H1 ι1 v e1 G1 S1 r1 => ⟨k1, by simpa [Rel] using r1, ?_⟩
    cases k1 with
    | true => simp only [if_true] at h ⊢; exact ⟨ι1, σd, g1, d, g', G1, S1, h, p.mono e1⟩
    | false => simp only [Bool.false_eq_true, if_false] at h ⊢; cases h; exact p H1 ι1 _ e1 G1 (by simp [Rel]))
noncomputable def fIfx (ga : FT) (fa fb : FE) : FE := fun σ g => (ga σ g).bind fun r => if r.1 = true then fa σ r.2 else fb σ r.2
theorem de_ifx (hc : DT X c ga) (ha : DE X a fa) (hb : DE X b fb) : DE X (.IfExp c a b pos) (fIfx ga fa fb) := .of (
  PE.imp (pe_ifExp hc.un ha.un hb.un) fun σ H Q h => by
    obtain ⟨ι, σd, g, d, g', G0, S0, h, p⟩ := h
    obtain ⟨⟨k1, g1⟩, h1, h⟩ := bind_some h
    refine tDT.bind G0 S0 h1 fun H1 ι1 e1 G1 S1 => ?_
    cases k1 with
    | true => simp only [if_true] at h ⊢; exact ⟨ι1, σd, g1, d, g', G1, S1, h, p.mono e1⟩
    | false => simp only [Bool.false_eq_true, if_false] at h ⊢; exact ⟨ι1, σd, g1, d, g', G1, S1, h, p.mono e1⟩)
noncomputable def fNil : FA := fun _ g => some ([], g)
noncomputable def fCons (fa : FE) (fr : FA) : FA := fun σ g => (fa σ g).bind fun r => (fr σ r.2).bind fun q => some (r.1 :: q.1, q.2)
theorem da_nil : DA X [] fNil := .of (PA.imp pa_nil fun σ H Q h => by
  obtain ⟨ι, σd, g, d, g', G0, S0, h, p⟩ := h
  cases h; exact p H ι _ Ext.refl G0 (by simp [RelL]))
theorem da_cons (ha : DE X e fa) (hr : DA X es fr) (hs : starEach (e :: es) X.env = (false, eval e X.env) :: starEach es X.env := by rfl) : DA X (e :: es) (fCons fa fr) := .of (
  PA.imp (pa_cons ha.un hr.un hs) fun σ H Q h => by
    obtain ⟨ι, σd, g, d, g', G0, S0, h, p⟩ := h
    obtain ⟨⟨d1, g1⟩, h1, h⟩ := bind_some h
    obtain ⟨⟨d2, g2⟩, h2, h⟩ := bind_some h
    cases h
    refine tD.bind G0 S0 h1 fun H1 ι1 v e1 G1 S1 r1 => ?_
    refine tDA.bind G1 S1 h2 fun H2 ι2 u e2 G2 S2 r2 => ?_
    refine p H2 ι2 _ (e1.trans e2) G2 ?_
    simp only [RelL]
    exact ⟨_, _, rfl, Rel.ext e2 _ r1, r2⟩)
noncomputable def szOk (n : Nat) : Bool := decide (n ≤ 16777216)
theorem szOk.le {n : Nat} (h : szOk n = true) : n ≤ sizeLine := by rw [sizeLine_eq]; exact of_decide_eq_true h
noncomputable def mkTup (ds : List D) (g : G) : Option (D × G) := if szOk ds.length = true then some (.tup ds, g) else none
noncomputable def mkLst (ds : List D) (g : G) : Option (D × G) := if szOk ds.length = true then some (.lst ds, g) else none
noncomputable def mkRef (ds : List D) (g : G) : Option (D × G) := if szOk ds.length = true then some (.ref g.length, g ++ [ds]) else none
theorem laid_tup {K H ι g ds vs d g' Q} (G0 : RelG K H ι g) (r : RelL K H ι ds vs) (h : mkTup ds g = some (d, g')) (p : Post K H ι d g' Q) : vs.length ≤ sizeLine ∧ ∀ q, H q = none → Q (.ref q) (upd H q (.tup vs)) := by
  unfold mkTup at h
  split at h
  · rename_i z
    cases h
    refine ⟨by rw [← r.length]; exact szOk.le z, fun q hq => p _ _ _ (Ext.lay hq) (G0.lay hq) ?_⟩
    simp only [Rel]
    exact ⟨q, vs, rfl, .inl ⟨.inl upd_same, G0.fresh hq⟩, RelL.ext (Ext.lay hq) _ r⟩
  · cases h
theorem laid_lst {K H ι g ds vs d g' Q} (G0 : RelG K H ι g) (r : RelL K H ι ds vs) (h : mkLst ds g = some (d, g')) (p : Post K H ι d g' Q) : vs.length ≤ sizeLine ∧ ∀ q, H q = none → Q (.ref q) (upd H q (.lst vs)) := by
  unfold mkLst at h
  split at h
  · rename_i z
    cases h
    refine ⟨by rw [← r.length]; exact szOk.le z, fun q hq => p _ _ _ (Ext.lay hq) (G0.lay hq) ?_⟩
    simp only [Rel]
    exact ⟨q, vs, rfl, .inl ⟨.inl upd_same, G0.fresh hq, G0.freshH hq⟩, RelL.ext (Ext.lay hq) _ r⟩
  · cases h
theorem laid_ref {K H ι g ds vs d g' Q} (G0 : RelG K H ι g) (r : RelL K H ι ds vs) (h : mkRef ds g = some (d, g')) (p : Post K H ι d g' Q) : vs.length ≤ sizeLine ∧ ∀ q, H q = none → Q (.ref q) (upd H q (.lst vs)) := by
  unfold mkRef at h
  split at h
  · rename_i z
    cases h
    refine ⟨by rw [← r.length]; exact szOk.le z, fun q hq => p _ _ _ (Ext.push hq) (G0.push hq r) ?_⟩
    simp only [Rel]
    refine ⟨q, rfl, ?_⟩
    show (ι.ix ++ [q])[g.length]? = some q
    rw [List.getElem?_append_right (by rw [G0.len]; exact Nat.le_refl _), G0.len]; simp
  · cases h
noncomputable def fMk (m : List D → G → Option (D × G)) (fr : FA) : FE := fun σ g => (fr σ g).bind fun r => m r.1 r.2
theorem de_tup {x1} (h : DA X es fr) : DE X (.Tuple es x1 pos) (fMk mkTup fr) := .of (PE.imp (pe_tup h.un) fun σ H Q h => by
  obtain ⟨ι, σd, g, d, g', G0, S0, h, p⟩ := h
  obtain ⟨⟨d1, g1⟩, h1, h⟩ := bind_some h
  exact tDA.bind G0 S0 h1 fun H1 ι1 v e1 G1 S1 r1 => laid_tup G1 r1 h (p.mono e1))
theorem de_lst (h : DA X es fr) : DE X (.List es pos) (fMk mkLst fr) := .of (PE.imp (pe_lst h.un) fun σ H Q h => by
  obtain ⟨ι, σd, g, d, g', G0, S0, h, p⟩ := h
  obtain ⟨⟨d1, g1⟩, h1, h⟩ := bind_some h
  exact tDA.bind G0 S0 h1 fun H1 ι1 v e1 G1 S1 r1 => laid_lst G1 r1 h (p.mono e1))
theorem de_ref (h : DA X es fr) : DE X (.List es pos) (fMk mkRef fr) := .of (PE.imp (pe_lst h.un) fun σ H Q h => by
  obtain ⟨ι, σd, g, d, g', G0, S0, h, p⟩ := h
  obtain ⟨⟨d1, g1⟩, h1, h⟩ := bind_some h
  exact tDA.bind G0 S0 h1 fun H1 ι1 v e1 G1 S1 r1 => laid_ref G1 r1 h (p.mono e1))
end
end L3
namespace L3
open PySem PySem.Spec PyProof.Rows L2
inductive F where
  | nx | rt (d : D) | bk | ct
noncomputable abbrev FS := Sg → G → Option (F × Sg × G)
noncomputable def PostS (K : PySem.W.Frag) (H : Hp) (ι : Ix) (r : F) (σd' : Sg) (g' : G) (Dn : Ends) : Prop :=
  ∀ H' ι', Ext H ι H' ι' → RelG K H' ι' g' → match r with
    | .nx => ∀ σ', RelS K H' ι' σd' σ' → Dn.nx σ' H'
    | .bk => ∀ σ', RelS K H' ι' σd' σ' → Dn.bk σ' H'
    | .ct => ∀ σ', RelS K H' ι' σd' σ' → Dn.ct σ' H'
    | .rt d => ∀ v, Rel K H' ι' d v → Dn.rt v H'
inductive tDS (K : PySem.W.Frag) (f : FS)  (Dn : Ends) (σ : L2.St) (H : Hp) : Prop
  | mk (ι : Ix) (σd : Sg) (g : G) (r : F) (σd' : Sg) (g' : G) (h0 : RelG K H ι g) (h1 : RelS K H ι σd σ) (h2 : f σd g = some (r, σd', g')) (h3 : PostS K H ι r σd' g' Dn) : tDS K f Dn σ H
structure DS (X : Cx) (st : Stmt) (f : FS) : Prop where of ::
  un : PS X st (tDS X.K f)
structure DSs (X : Cx) (sts : List Stmt) (f : FS) : Prop where of ::
  un : PSs X sts (tDS X.K f)
theorem PS.imp {X : Cx} {e : Stmt} {t t' : TS} (h : PS X e t) (i : ∀ Dn σ H, t' Dn σ H → t Dn σ H) : PS X e t' := fun pins s σ H Q I q => h pins s σ H Q I (i Q σ H q)
theorem PSs.imp {X : Cx} {e : List Stmt} {t t' : TS} (h : PSs X e t) (i : ∀ Dn σ H, t' Dn σ H → t Dn σ H) : PSs X e t' := fun pins s σ H Q I q => h pins s σ H Q I (i Q σ H q)
theorem PostS.mono {K H ι H1 ι1 r σd' g' Dn} (e : Ext H ι H1 ι1) (p : PostS K H ι r σd' g' Dn) : PostS K H1 ι1 r σd' g' Dn := fun H' ι' e' G' => p H' ι' (e.trans e') G'
noncomputable def fSkip : FS := fun σ g => some (.nx, σ, g)
noncomputable def fSeq (f1 f2 : FS) : FS := fun σ g => (f1 σ g).bind fun r => match r.1 with | .nx => f2 r.2.1 r.2.2 | _ => some r
noncomputable def fRet (f : FE) : FS := fun σ g => (f σ g).bind fun r => some (.rt r.1, σ, r.2)
noncomputable def fRetN : FS := fun σ g => some (.rt .non, σ, g)
noncomputable def fDrop (f : FE) : FS := fun σ g => (f σ g).bind fun r => some (.nx, σ, r.2)
noncomputable def fIf (c : FT) (f1 f2 : FS) : FS := fun σ g => (c σ g).bind fun r => if r.1 = true then f1 σ r.2 else f2 σ r.2
section
variable {X : Cx} {st : Stmt} {rest : List Stmt} {f1 f2 : FS} {e : Expr} {fe : FE} {pos : Pos} {gc : FT}
theorem dss_nil : DSs X [] fSkip := .of (PSs.imp pss_nil fun Dn σ H h => by
  obtain ⟨ι, σd, g, r, σd', g', G0, S0, h, p⟩ := h
  cases h
  exact p H ι Ext.refl G0 σ S0)
theorem dss_cons (h1 : DS X st f1) (h2 : DSs X rest f2) : DSs X (st :: rest) (fSeq f1 f2) := .of (PSs.imp (pss_cons h1.un h2.un) fun Dn σ H h => by
  obtain ⟨ι, σd, g, r, σd', g', G0, S0, h, p⟩ := h
  obtain ⟨⟨r1, σ1, g1⟩, h1, h⟩ := bind_some h
  refine ⟨ι, σd, g, r1, σ1, g1, G0, S0, h1, fun H1 ι1 e1 G1 => ?_⟩
  cases r1 with
  | nx => exact fun σ' S1 => ⟨ι1, σ1, g1, r, σd', g', G1, S1, h, p.mono e1⟩
  | bk => cases h; exact p H1 ι1 e1 G1
  | ct => cases h; exact p H1 ι1 e1 G1
  | rt d => cases h; exact p H1 ι1 e1 G1)
theorem dss_one (h1 : DS X st f1) : DSs X [st] f1 := .of (pss_one h1.un)
theorem ds_ret (he : DE X e fe) : DS X (.Return (some e) pos) (fRet fe) := .of (PS.imp (ps_ret he.un) fun Dn σ H h => by
  obtain ⟨ι, σd, g, r, σd', g', G0, S0, h, p⟩ := h
  obtain ⟨⟨d1, g1⟩, h1, h⟩ := bind_some h
  cases h
  exact tD.bind G0 S0 h1 fun H1 ι1 v e1 G1 S1 r1 => p H1 ι1 e1 G1 v r1)
theorem ds_expr (he : DE X e fe) (hs : swapsWith e none pos.line X.env = pure false := by rfl) : DS X (.Expr e pos) (fDrop fe) := .of (PS.imp (ps_expr he.un hs) fun Dn σ H h => by
  obtain ⟨ι, σd, g, r, σd', g', G0, S0, h, p⟩ := h
  obtain ⟨⟨d1, g1⟩, h1, h⟩ := bind_some h
  cases h
  exact tD.bind G0 S0 h1 fun H1 ι1 v e1 G1 S1 r1 => p H1 ι1 e1 G1 σ S1)
theorem ds_if {c : Expr} {a b : List Stmt} (hc : DT X c gc) (ha : DSs X a f1) (hb : DSs X b f2) : DS X (.If c a b pos) (fIf gc f1 f2) := .of (PS.imp (ps_if hc.un ha.un hb.un) fun Dn σ H h => by
  obtain ⟨ι, σd, g, r, σd', g', G0, S0, h, p⟩ := h
  obtain ⟨⟨k, g1⟩, h1, h⟩ := bind_some h
  refine tDT.bind G0 S0 h1 fun H1 ι1 e1 G1 S1 => ?_
  cases k with
  | true => simp only [if_true] at h ⊢; exact ⟨ι1, σd, g1, r, σd', g', G1, S1, h, p.mono e1⟩
  | false => simp only [Bool.false_eq_true, if_false] at h ⊢; exact ⟨ι1, σd, g1, r, σd', g', G1, S1, h, p.mono e1⟩)
noncomputable abbrev FG := D → Sg → G → Option (Sg × G)
noncomputable abbrev FGs := List D → Sg → G → Option (Sg × G)
inductive tDG (K : PySem.W.Frag) (f : FG)  (v : V) (σ : L2.St) (H : Hp) (Q : (L2.St → Hp → Prop)) : Prop
  | mk (ι : Ix) (σd : Sg) (g : G) (d : D) (σd' : Sg) (g' : G) (h0 : RelG K H ι g) (h1 : RelS K H ι σd σ) (h2 : Rel K H ι d v) (h3 : f d σd g = some (σd', g')) (h4 : ∀ H' ι' σ', Ext H ι H' ι' → RelG K H' ι' g' → RelS K H' ι' σd' σ' → Q σ' H') : tDG K f v σ H Q
inductive tDGs (K : PySem.W.Frag) (f : FGs)  (v : List V) (σ : L2.St) (H : Hp) (Q : (L2.St → Hp → Prop)) : Prop
  | mk (ι : Ix) (σd : Sg) (g : G) (d : List D) (σd' : Sg) (g' : G) (h0 : RelG K H ι g) (h1 : RelS K H ι σd σ) (h2 : RelL K H ι d v) (h3 : f d σd g = some (σd', g')) (h4 : ∀ H' ι' σ', Ext H ι H' ι' → RelG K H' ι' g' → RelS K H' ι' σd' σ' → Q σ' H') : tDGs K f v σ H Q
structure DG (X : Cx) (tg : Expr) (f : FG) : Prop where of ::
  un : PG X tg (tDG X.K f)
structure DGs (X : Cx) (tg : List Expr) (f : FGs) : Prop where of ::
  un : PGs X tg (tDGs X.K f)
theorem PG.imp {X : Cx} {e : Expr} {t t' : TG} (h : PG X e t) (i : ∀ v σ H Q, t' v σ H Q → t v σ H Q) : PG X e t' := fun pins s σ H v u Q I r q => h pins s σ H v u Q I r (i v σ H Q q)
theorem PGs.imp {X : Cx} {e : List Expr} {t t' : TGs} (h : PGs X e t) (i : ∀ v σ H Q, t' v σ H Q → t v σ H Q) : PGs X e t' := fun pins s σ H v u Q I r q => h pins s σ H v u Q I r (i v σ H Q q)
noncomputable def gN (i : Nat) : FG := fun d σ g => some (σ.set i (some d), g)
theorem RelS.set {K H ι σd σ d v} (S : RelS K H ι σd σ) (r : Rel K H ι d v) (i : Nat) : RelS K H ι (σd.set i (some d)) (σ.set i (some v)) := by
  refine ⟨by simp [S.1], fun j d' q => ?_⟩
  by_cases e : i = j
  · subst e
    have hi : i < σd.length := by
      by_cases hi : i < σd.length
      · exact hi
      · rw [List.getElem?_eq_none_iff.mpr (by simpa using hi)] at q; cases q
    rw [List.getElem?_set_self hi] at q
    cases q
    exact ⟨v, by rw [List.getElem?_set_self (by rw [← S.1]; exact hi)], r⟩
  · rw [List.getElem?_set_ne e] at q ⊢
    exact S.2 j d' q
theorem dg_name {i : Nat} {x : Str} (hN : X.N.Nodup) (hi : X.N[i]? = some x) (hx : Loc X.env.scope x) (hf : X.fn x = true ∨ X.env.scope.names.lookup x = some .local := by first | exact .inl rfl | exact .inr rfl | assumption) : DG X (.Name x pos) (gN i) := .of (
  PG.imp (pg_name hN hi hx hf) fun v σ H Q h => by
    obtain ⟨ι, σd, g, d, σd', g', G0, S0, r, h, p⟩ := h
    cases h
    exact p H ι _ Ext.refl G0 (S0.set r i))
noncomputable def gNils : FGs := fun ds σ g => match ds with | [] => some (σ, g) | _ => none
noncomputable def gConss (t : FG) (u : FGs) : FGs := fun ds σ g => match ds with | d :: r => (t d σ g).bind fun q => u r q.1 q.2 | [] => none
theorem dgs_nil : DGs X [] gNils := .of (PGs.imp pgs_nil fun v σ H Q h => by
  obtain ⟨ι, σd, g, d, σd', g', G0, S0, r, h, p⟩ := h
  cases d with
  | nil => cases h; simp only [RelL] at r; exact ⟨r, p H ι _ Ext.refl G0 S0⟩
  | cons _ _ => cases h)
theorem dgs_cons {e : Expr} {es : List Expr} {t : FG} {u : FGs} (h1 : DG X e t) (h2 : DGs X es u)
    (hs : (assignEach (e :: es) X.env).map (·.2) = assign e X.env :: (assignEach es X.env).map (·.2) := by rfl) : DGs X (e :: es) (gConss t u) := .of (PGs.imp (pgs_cons h1.un h2.un hs) fun v σ H Q h => by
  obtain ⟨ι, σd, g, d, σd', g', G0, S0, r, h, p⟩ := h
  cases d with
  | nil => cases h
  | cons d ds =>
    simp only [RelL] at r
    obtain ⟨v0, vr, rfl, r0, rr⟩ := r
    obtain ⟨⟨σ1, g1⟩, h1, h⟩ := bind_some h
    exact ⟨v0, vr, rfl, ι, σd, g, d, σ1, g1, G0, S0, r0, h1, fun H1 ι1 σ' e1 G1 S1 => ⟨ι1, σ1, g1, ds, σd', g', G1, S1, RelL.ext e1 _ rr, h, fun H2 ι2 σ2 e2 G2 S2 => p H2 ι2 σ2 (e1.trans e2) G2 S2⟩⟩)
noncomputable def gT (n : Nat) (t : FGs) : FG := fun d σ g => match d with | .tup xs => if xs.length = n then t xs σ g else none | _ => none
theorem dg_tup {es : List Expr} {k : Nat} {t : FGs} {n : Nat} (hc : X.calm = true) (h : DGs X es t)
    (hn : (assignEach es X.env).length = n := by rfl) (hst : (assignEach es X.env).findIdx? (·.1) = none := by rfl) : DG X (.Tuple es k pos) (gT n t) := .of (PG.imp (pg_tup hc h.un hn hst) fun v σ H Q h => by
  obtain ⟨ι, σd, g, d, σd', g', G0, S0, r, h, p⟩ := h
  cases d with
  | tup xs =>
    simp only [Rel] at r
    obtain ⟨a, vs, rfl, hq, hr⟩ := r
    simp only [gT] at h
    split at h
    · rename_i z
      exact ⟨a, vs, rfl, hq.sq, by rw [← hr.length]; exact z, ι, σd, g, xs, σd', g', G0, S0, hr, h, p⟩
    · cases h
  | _ => cases h)
noncomputable def fAsg (f : FE) (t : FG) : FS := fun σ g => (f σ g).bind fun r => (t r.1 σ r.2).bind fun q => some (.nx, q.1, q.2)
theorem tAsg_of {K t} {fe : FE} {Dn σ H} (h : tDS K (fAsg fe t) Dn σ H) : tAsg (tD K fe) (tDG K t) Dn σ H := by
  obtain ⟨ι, σd, g, r, σd', g', G0, S0, h, p⟩ := h
  obtain ⟨⟨d1, g1⟩, h1, h⟩ := bind_some h
  obtain ⟨⟨σ1, g2⟩, h2, h⟩ := bind_some h
  cases h
  exact tD.bind G0 S0 h1 fun H1 ι1 v e1 G1 S1 r1 => ⟨ι1, σd, g1, d1, σ1, g2, G1, S1, r1, h2, fun H2 ι2 σ' e2 G2 S2 => p H2 ι2 (e1.trans e2) G2 σ' S2⟩
theorem ds_asg {tg : Expr} {t : FG} (he : DE X e fe) (hg : DG X tg t) (hs : swapsWithSole [tg] e pos.line X.env = pure false := by rfl) (hw : swappedStores [tg] e X.env = pure none := by rfl)
    (h1 : (assignEach [tg] X.env).map (·.2) = [assign tg X.env] := by rfl) : DS X (.Assign [tg] e pos) (fAsg fe t) := .of (PS.imp (ps_asg he.un hg.un hs hw h1) fun Dn σ H h => tAsg_of h)
theorem ds_set {i : Nat} {x : Str} {pos' : Pos} (hN : X.N.Nodup) (hi : X.N[i]? = some x) (hx : Loc X.env.scope x) (he : DE X e fe) (hs : swapsWith e (some (.Name x pos')) pos.line X.env = pure false := by rfl) (hf : X.fn x = true ∨ X.env.scope.names.lookup x = some .local := by first | exact .inl rfl | exact .inr rfl | assumption) :
    DS X (.Assign [.Name x pos'] e pos) (fAsg fe (gN i)) := .of (PS.imp (ps_set hN hi hx he.un hs hf) fun Dn σ H h => by
  obtain ⟨ι, σd, g, r, σd', g', G0, S0, h, p⟩ := h
  obtain ⟨⟨d1, g1⟩, h1, h⟩ := bind_some h
  cases h
  exact tD.bind G0 S0 h1 fun H1 ι1 v e1 G1 S1 r1 => p H1 ι1 e1 G1 _ (S1.set r1 i))
noncomputable def putD (o i v : D) (g : G) : Option G := match o, i with
  | .ref n, .int k => match g[n]? with
    | some xs => match ixN xs.length k with
      | some j => some (g.set n (xs.set j v))
      | none => none
    | none => none
  | _, _ => none
noncomputable def gIx (fo fi : FE) : FG := fun v σ g => (fo σ g).bind fun r => (fi σ r.2).bind fun q => (putD r.1 q.1 v q.2).map fun g' => (σ, g')
theorem dg_sub {o i : Expr} {fo fi : FE} (ho : DE X o fo) (hi : DE X i fi)
    (ha : ∀ v, assign (.Subscript o i pos) X.env v = (do
      let ov ← holding [v] (eval o X.env)
      let iv ← holding [v, ov] (eval i X.env)
      standAt pos
      holding [v, ov, iv] (setItem ov iv v)
      release [v, ov, iv] []) := by intro _; rfl) : DG X (.Subscript o i pos) (gIx fo fi) := .of (PG.imp (pg_sub ho.un hi.un set_list ha) fun v σ H Q h => by
  obtain ⟨ι, σd, g, d, σd', g', G0, S0, r, h, p⟩ := h
  obtain ⟨⟨d1, g1⟩, h1, h⟩ := bind_some h
  obtain ⟨⟨d2, g2⟩, h2, h⟩ := bind_some h
  refine tD.bind G0 S0 h1 fun H1 ι1 v1 e1 G1 S1 r1 => ?_
  refine tD.bind G1 S1 h2 fun H2 ι2 v2 e2 G2 S2 r2 => ?_
  have r1 := Rel.ext e2 _ r1
  have r0 := Rel.ext (e1.trans e2) _ r
  dsimp only at h
  cases d1 with
  | ref n =>
    cases d2 with
    | int k =>
      simp only [Rel] at r1 r2
      obtain ⟨a, rfl, ha⟩ := r1
      subst r2
      simp only [putD] at h
      cases hx : g2[n]? with
      | none => rw [hx] at h; cases h
      | some xs =>
        rw [hx] at h
        dsimp only at h
        cases hj : ixN xs.length k with
        | none => rw [hj] at h; cases h
        | some j =>
          rw [hj] at h
          cases h
          obtain ⟨vs, hv, hr⟩ := G2.at hx ha
          refine ⟨a, vs, k, j, rfl, rfl, hv, by rw [← hr.length]; exact hj, ?_⟩
          exact p _ ι2 σ ((e1.trans e2).trans (Ext.put ha hv)) (G2.put ha hv (RelL.set r0 j hr)) (S2.ext (Ext.put ha hv))
    | _ => cases h
  | _ => cases h)
end
noncomputable abbrev FI := Sg → G → Option (List D × G)
structure Exh (H : Hp) (ι : Ix) (H' : Hp) (ι' : Ix) : Prop where
  same : ∀ a o, H a = some o → a ∉ ι.ix → H' a = some o
  there : ∀ a, H a ≠ none → H' a ≠ none
  more : ∃ m, ι'.ix = ι.ix ++ m ∧ ∀ a ∈ m, H a = none
  hid : ∃ hs, ι'.hd = hs ++ ι.hd ∧ ∀ b ∈ hs, H b = none
theorem Ext.exh {H ι H1 ι1} (e : Ext H ι H1 ι1) : Exh H ι H1 ι1 := ⟨e.same, e.there, e.more, ⟨[], e.hid, fun _ z => by simp at z⟩⟩
theorem Exh.old {H ι H1 ι1} (a : Exh H ι H1 ι1) {c : Addr} {o : HO} (h : H c = some o) (n : c ∉ ι.ix) : c ∉ ι1.ix := fun z => by
  obtain ⟨m1, e1, f1⟩ := a.more
  rw [e1] at z
  rcases List.mem_append.mp z with z | z
  · exact n z
  · rw [f1 c z] at h; cases h
theorem Exh.oldH {H ι H1 ι1} (a : Exh H ι H1 ι1) {c : Addr} {o : HO} (h : H c = some o) (n : c ∉ ι.hd) : c ∉ ι1.hd := fun z => by
  obtain ⟨m1, e1, f1⟩ := a.hid
  rw [e1] at z
  rcases List.mem_append.mp z with z | z
  · rw [f1 c z] at h; cases h
  · exact n z
theorem Exh.at {H ι H1 ι1} (a : Exh H ι H1 ι1) {i : Nat} {c : Addr} (h : ι.ix[i]? = some c) : ι1.ix[i]? = some c := by
  obtain ⟨m1, e1, _⟩ := a.more
  rw [e1, List.getElem?_append_left (List.getElem?_eq_some_iff.mp h).1]; exact h
theorem SqV.exh {K H ι H1 ι1 a xs} (e : Exh H ι H1 ι1) (h : SqV K H ι a xs) : SqV K H1 ι1 a xs := by
  rcases h with ⟨h | ⟨o, h⟩, n, k⟩ | h
  · exact .inl ⟨.inl (e.same _ _ h n), e.old h n, e.oldH h k⟩
  · exact .inl ⟨.inr ⟨o, e.same _ _ h n⟩, e.old h n, e.oldH h k⟩
  · exact .inr h
theorem SqU.exh {K H ι H1 ι1 a xs} (e : Exh H ι H1 ι1) (h : SqU K H ι a xs) : SqU K H1 ι1 a xs := by
  rcases h with ⟨h | ⟨o, h⟩, n⟩ | h
  · exact .inl ⟨.inl (e.same _ _ h n), e.old h n⟩
  · exact .inl ⟨.inr ⟨o, e.same _ _ h n⟩, e.old h n⟩
  · exact .inr h
mutual
theorem Rel.exh {K H ι H1 ι1} (e : Exh H ι H1 ι1) : ∀ (d : D) {v : V}, Rel K H ι d v → Rel K H1 ι1 d v
  | .non, v, h => by simpa [Rel] using h
  | .bl _, v, h => by simpa [Rel] using h
  | .int _, v, h => by simpa [Rel] using h
  | .str _, v, h => by simpa [Rel] using h
  | .tup xs, v, h => by
    simp only [Rel] at h ⊢
    obtain ⟨a, vs, e1, hq, hr⟩ := h
    exact ⟨a, vs, e1, hq.exh e, RelL.exh e xs hr⟩
  | .lst xs, v, h => by
    simp only [Rel] at h ⊢
    obtain ⟨a, vs, e1, hq, hr⟩ := h
    exact ⟨a, vs, e1, hq.exh e, RelL.exh e xs hr⟩
  | .edc, v, h => by
    simp only [Rel] at h ⊢
    obtain ⟨a, e1, hq, hr⟩ := h
    exact ⟨a, e1, e.same _ _ hq hr, e.old hq hr⟩
  | .ref n, v, h => by
    simp only [Rel] at h ⊢
    obtain ⟨a, e1, hq⟩ := h
    exact ⟨a, e1, e.at hq⟩
theorem RelL.exh {K H ι H1 ι1} (e : Exh H ι H1 ι1) : ∀ (ds : List D) {vs : List V}, RelL K H ι ds vs → RelL K H1 ι1 ds vs
  | [], vs, h => by simpa [RelL] using h
  | d :: ds, vs, h => by
    simp only [RelL] at h ⊢
    obtain ⟨v, vr, e1, hq, hr⟩ := h
    exact ⟨v, vr, e1, Rel.exh e d hq, RelL.exh e ds hr⟩
end
noncomputable def ItOk (K : PySem.W.Frag) (J : It) (H : Hp) (ι : Ix) (ds : List D) : Prop :=
  ∀ (i : Nat) H1 ι1 g1, Exh H ι H1 ι1 → RelG K H1 ι1 g1 → (ds.length ≤ i → J.stop i H1) ∧ ∀ d, ds[i]? = some d → J.go i H1 ∧ ∀ x H2, J.yld i H1 x H2 → Ext H1 ι1 H2 ι1 ∧ RelG K H2 ι1 g1 ∧ Rel K H2 ι1 d x
inductive tDI (K : PySem.W.Frag) (f : FI)  (σ : L2.St) (H : Hp) (R : (It → Hp → Prop)) : Prop
  | mk (ι : Ix) (σd : Sg) (g : G) (ds : List D) (g' : G) (h0 : RelG K H ι g) (h1 : RelS K H ι σd σ) (h2 : f σd g = some (ds, g')) (h3 : ∀ H' ι' J, Ext H ι H' ι' → RelG K H' ι' g' → ItOk K J H' ι' ds → R J H') : tDI K f σ H R
structure DI (X : Cx) (tg iter : Expr) (f : FI) : Prop where of ::
  un : PI X tg iter (tDI X.K f)
theorem PI.imp {X : Cx} {tg e : Expr} {t t' : TI} (h : PI X tg e t) (i : ∀ σ H Q, t' σ H Q → t σ H Q) : PI X tg e t' := fun pins s σ H Q I q => h pins s σ H Q I (i σ H Q q)
theorem ItOk.lst {K H ι a vs ds} (hq : SqV K H ι a vs) (hr : RelL K H ι ds vs) : ItOk K (Itl K a) H ι ds := fun i H1 ι1 g1 e1 G1 =>
  ⟨fun hl => ⟨vs, (hq.exh e1).sq, by rw [← hr.length]; exact hl⟩, fun d hd => by
    obtain ⟨v, hv, rv⟩ := (RelL.exh e1 _ hr).get hd
    refine ⟨⟨vs, v, (hq.exh e1).sq, hv⟩, fun x H2 y => ?_⟩
    obtain ⟨rfl, y⟩ := y
    have := y vs (hq.exh e1).sq
    rw [hv] at this; cases this
    exact ⟨Ext.refl, G1, rv⟩⟩
theorem ItOk.tup' {K H ι a vs ds} (hq : SqU K H ι a vs) (hr : RelL K H ι ds vs) : ItOk K (Itt K a) H ι ds := fun i H1 ι1 g1 e1 G1 =>
  ⟨fun hl => ⟨vs, (hq.exh e1).sq, by rw [← hr.length]; exact hl⟩, fun d hd => by
    obtain ⟨v, hv, rv⟩ := (RelL.exh e1 _ hr).get hd
    refine ⟨⟨vs, v, (hq.exh e1).sq, hv⟩, fun x H2 y => ?_⟩
    obtain ⟨rfl, y⟩ := y
    have := y vs (hq.exh e1).sq
    rw [hv] at this; cases this
    exact ⟨Ext.refl, G1, rv⟩⟩
theorem ItOk.rng {K H ι} {lo : Int} {n : Nat} : ItOk K (Itr lo n) H ι ((List.range n).map fun (k : Nat) => D.int (lo + k)) := fun i H1 ι1 g1 e1 G1 =>
  ⟨fun hl => (by show n ≤ i; simpa using hl), fun d hd => by
    have hi : i < n := by
      have := (List.getElem?_eq_some_iff.mp hd).1
      simpa using this
    refine ⟨hi, fun x H2 y => ?_⟩
    obtain ⟨rfl, rfl⟩ := y
    have e : d = D.int (lo + i) := by simpa [List.getElem?_map, List.getElem?_range hi] using hd.symm
    subst e
    exact ⟨Ext.refl, G1, by simp [Rel]⟩⟩
section
variable {X : Cx} {tg l a b : Expr} {fe : FE} {fr : FA} {pos p : Pos}
noncomputable def iSeqT (f : FE) : FI := fun σ g => (f σ g).bind fun r => match r.1 with | .tup xs => some (xs, r.2) | _ => none
noncomputable def iSeqL (f : FE) : FI := fun σ g => (f σ g).bind fun r => match r.1 with | .lst xs => some (xs, r.2) | _ => none
theorem di_tup (hl : DE X l fe) : DI X tg l (iSeqT fe) := .of (PI.imp (pi_tup hl.un) fun σ H Q h => by
  obtain ⟨ι, σd, g, ds, g', G0, S0, h, p⟩ := h
  obtain ⟨⟨d1, g1⟩, h1, h⟩ := bind_some h
  cases d1 with
  | tup xs =>
    cases h
    refine tD.bind G0 S0 h1 fun H1 ι1 v e1 G1 S1 r1 => ?_
    simp only [Rel] at r1
    obtain ⟨a, vs, rfl, hq, hr⟩ := r1
    exact ⟨a, rfl, ⟨vs, hq.sq⟩, p H1 ι1 _ e1 G1 (.tup' hq hr)⟩
  | _ => cases h)
theorem di_lst (hl : DE X l fe) : DI X tg l (iSeqL fe) := .of (PI.imp (pi_list hl.un) fun σ H Q h => by
  obtain ⟨ι, σd, g, ds, g', G0, S0, h, p⟩ := h
  obtain ⟨⟨d1, g1⟩, h1, h⟩ := bind_some h
  cases d1 with
  | lst xs =>
    cases h
    refine tD.bind G0 S0 h1 fun H1 ι1 v e1 G1 S1 r1 => ?_
    simp only [Rel] at r1
    obtain ⟨a, vs, rfl, hq, hr⟩ := r1
    exact ⟨a, rfl, ⟨vs, hq.sq⟩, p H1 ι1 _ e1 G1 (.lst hq hr)⟩
  | _ => cases h)
noncomputable def okR (i : Int) : Bool := Nat.ble i.natAbs 4611686018427387903
theorem okR.and {i : Int} (h : okR i = true) : -(2 ^ 62) ≤ i ∧ i < 2 ^ 62 := by
  have := Nat.le_of_ble_eq_true h
  omega
theorem okR.of {i : Int} (h1 : -1000000 ≤ i) (h2 : i ≤ 1000000) : okR i = true := Nat.ble_eq_true_of_le (by omega)
noncomputable def iR1 (fr : FA) : FI := fun σ g => (fr σ g).bind fun r => match r.1 with | [.int j] => if okR j = true then some ((List.range j.toNat).map fun (k : Nat) => D.int (0 + k), r.2) else none | _ => none
theorem di_r1 (hg : Gl X "range") (hm : X.mg "range" = none) (ha : DA X [a] fr) (hs : starEach [a] X.env = [(false, eval a X.env)] := by rfl) : DI X tg (.Call (.Name "range" p) [a] [] pos) (iR1 fr) := .of (
  PI.imp (pi_range1 hg hm ha.un hs) fun σ H Q h => by
    obtain ⟨ι, σd, g, ds, g', G0, S0, h, p⟩ := h
    obtain ⟨⟨d1, g1⟩, h1, h⟩ := bind_some h
    refine tDA.bind G0 S0 h1 fun H1 ι1 v e1 G1 S1 r1 => ?_
    dsimp only at h
    split at h
    · rename_i j
      split at h
      · rename_i z
        cases h
        simp only [RelL, Rel] at r1
        obtain ⟨_, _, rfl, rfl, rfl⟩ := r1
        exact ⟨j, rfl, (okR.and z).1, (okR.and z).2, p H1 ι1 _ e1 G1 .rng⟩
      · cases h
    · cases h)
noncomputable def forL (t : FG) (b : FS) : List D → FS
  | [], σ, g => some (.nx, σ, g)
  | d :: ds, σ, g => (t d σ g).bind fun q => (b q.1 q.2).bind fun r => match r.1 with
    | .nx => forL t b ds r.2.1 r.2.2
    | .ct => forL t b ds r.2.1 r.2.2
    | .bk => some (.nx, r.2.1, r.2.2)
    | .rt d => some (.rt d, r.2.1, r.2.2)
noncomputable def fFor (i : FI) (t : FG) (b : FS) : FS := fun σ g => (i σ g).bind fun r => forL t b r.1 σ r.2
inductive ForJ (X : Cx) (t : FG) (b : FS) (ds : List D) (H1 : Hp) (ι1 : Ix) (r : F) (σd' : Sg) (g' : G) (i : Nat) (σ2 : L2.St) (H2 : Hp) : Prop
  | mk (ι2 : Ix) (σd2 : Sg) (g2 : G) (e2 : Ext H1 ι1 H2 ι2) (G2 : RelG X.K H2 ι2 g2) (S2 : RelS X.K H2 ι2 σd2 σ2) (hf : forL t b (ds.drop i) σd2 g2 = some (r, σd', g')) : ForJ X t b ds H1 ι1 r σd' g' i σ2 H2
theorem ds_for {iter : Expr} {body : List Stmt} {fi : FI} {t : FG} {b : FS} (hp : PassesOwn (model X.prog X.w) X.A X.env X.xe) (hc : X.calm = true) (hi : DI X tg iter fi) (hg : DG X tg t) (hb : DSs X body b)
    (hs : ∀ x, foldedSetIterable iter X.env x = pure x := by intro _; rfl) : DS X (.For tg iter body [] pos) (fFor fi t b) := .of (PS.imp (ps_for hp hc hi.un hg.un hb.un hs) fun Dn σ H h => by
  obtain ⟨ι, σd, g, r, σd', g', G0, S0, h, p⟩ := h
  obtain ⟨⟨ds, g1⟩, h1, h⟩ := bind_some h
  refine ⟨ι, σd, g, ds, g1, G0, S0, h1, fun H1 ι1 J e1 G1 J1 => ?_⟩
  dsimp only at h
  refine ⟨fun i m σ2 H2 => m = ds.length - i ∧ i ≤ ds.length ∧ ForJ X t b ds H1 ι1 r σd' g' i σ2 H2,
    ⟨ds.length, by simp, Nat.zero_le _, ι1, σd, g1, Ext.refl, G1, S0.ext e1, by simpa using h⟩, ?_⟩
  rintro i m σ2 H2 ⟨rfl, hi, ι2, σd2, g2, e2, G2, S2, hf⟩
  obtain ⟨st, go⟩ := J1 i H2 ι2 g2 e2.exh G2
  by_cases hlt : i < ds.length
  · rw [List.drop_eq_getElem_cons hlt] at hf
    simp only [forL] at hf
    obtain ⟨⟨σ3, g3⟩, h3, hf⟩ := bind_some hf
    obtain ⟨⟨r4, σ4, g4⟩, h4, hf⟩ := bind_some hf
    obtain ⟨go, yl⟩ := go ds[i] (List.getElem?_eq_getElem hlt)
    refine .inr ⟨go, fun σ5 H5 => ForJ X t b ds H1 ι1 r σd' g' (i + 1) σ5 H5, ?_, ?_⟩
    · rintro σ5 H5 ⟨ι5, σd5, g5, e5, G5, S5, h5⟩
      exact ⟨ds.length - (i + 1), by omega, rfl, hlt, ι5, σd5, g5, e5, G5, S5, h5⟩
    · intro x H' y
      obtain ⟨e3, G3, r3⟩ := yl x H' y
      refine ⟨ι2, σd2, g2, ds[i], σ3, g3, G3, S2.ext e3, r3, h3, fun H6 ι6 σ6 e6 G6 S6 => ?_⟩
      refine ⟨ι6, σ3, g3, r4, σ4, g4, G6, S6, h4, fun H7 ι7 e7 G7 => ?_⟩
      have eall := e2.trans (e3.trans (e6.trans e7))
      cases r4 with
      | nx => exact fun σ' S7 => ⟨ι7, σ4, g4, eall, G7, S7, hf⟩
      | ct => exact fun σ' S7 => ⟨ι7, σ4, g4, eall, G7, S7, hf⟩
      | bk => cases hf; exact fun σ' S7 => p H7 ι7 (e1.trans eall) G7 σ' S7
      | rt d => cases hf; exact fun v r7 => p H7 ι7 (e1.trans eall) G7 v r7
  · have e : i = ds.length := by omega
    subst e
    simp only [List.drop_length, forL] at hf
    cases hf
    exact .inl ⟨st (Nat.le_refl _), p H2 ι2 (e1.trans e2) G2 σ2 S2⟩)
noncomputable def whL (c : FT) (b : FS) : Nat → FS
  | 0, _, _ => none
  | n + 1, σ, g => (c σ g).bind fun k => if k.1 = true then (b σ k.2).bind fun r => match r.1 with
      | .nx => whL c b n r.2.1 r.2.2
      | .ct => whL c b n r.2.1 r.2.2
      | .bk => some (.nx, r.2.1, r.2.2)
      | .rt d => some (.rt d, r.2.1, r.2.2)
    else some (.nx, σ, k.2)
noncomputable def fWh (n : Nat) (c : FT) (b : FS) : FS := whL c b n
inductive WhJ (X : Cx) (gc : FT) (b : FS) (H : Hp) (ι : Ix) (r : F) (σd' : Sg) (g' : G) (m : Nat) (σ2 : L2.St) (H2 : Hp) : Prop
  | mk (ι2 : Ix) (σd2 : Sg) (g2 : G) (e2 : Ext H ι H2 ι2) (G2 : RelG X.K H2 ι2 g2) (S2 : RelS X.K H2 ι2 σd2 σ2) (hf : whL gc b m σd2 g2 = some (r, σd', g')) : WhJ X gc b H ι r σd' g' m σ2 H2
theorem ds_while {c : Expr} {body : List Stmt} {gc : FT} {b : FS} (n : Nat) (hp : PassesOwn (model X.prog X.w) X.A X.env X.xe) (hc : DT X c gc) (hb : DSs X body b) : DS X (.While c body [] pos) (fWh n gc b) := .of (PS.imp (ps_while hp hc.un hb.un) fun Dn σ H h => by
  obtain ⟨ι, σd, g, r, σd', g', G0, S0, h, p⟩ := h
  refine ⟨WhJ X gc b H ι r σd' g', ⟨n, ι, σd, g, Ext.refl, G0, S0, h⟩, ?_⟩
  rintro m σ2 H2 ⟨ι2, σd2, g2, e2, G2, S2, hf⟩
  cases m with
  | zero => cases hf
  | succ m =>
    simp only [whL] at hf
    obtain ⟨⟨k, g3⟩, h3, hf⟩ := bind_some hf
    refine tDT.bind G2 S2 h3 fun H3 ι3 e3 G3 S3 => ?_
    cases k with
    | false =>
      simp only [Bool.false_eq_true, if_false] at hf ⊢
      cases hf
      exact p H3 ι3 (e2.trans e3) G3 σ2 S3
    | true =>
      simp only [if_true] at hf ⊢
      obtain ⟨⟨r4, σ4, g4⟩, h4, hf⟩ := bind_some hf
      refine ⟨WhJ X gc b H ι r σd' g' m, fun σ5 H5 q => ⟨m, Nat.lt_succ_self _, q⟩, ?_⟩
      refine ⟨ι3, σd2, g3, r4, σ4, g4, G3, S3, h4, fun H7 ι7 e7 G7 => ?_⟩
      have eall := e2.trans (e3.trans e7)
      cases r4 with
      | nx => exact fun σ' S7 => ⟨ι7, σ4, g4, eall, G7, S7, hf⟩
      | ct => exact fun σ' S7 => ⟨ι7, σ4, g4, eall, G7, S7, hf⟩
      | bk => cases hf; exact fun σ' S7 => p H7 ι7 eall G7 σ' S7
      | rt d => cases hf; exact fun v r7 => p H7 ι7 eall G7 v r7)
end
end L3
namespace L3
open PySem PySem.Spec PyProof.Rows L2
noncomputable abbrev Fn := List D → G → Option (D × G)
noncomputable def spD (K : PySem.W.Frag) (n : Nat) (fn : Fn) : Sp := fun vs H Q _ => vs.length = n ∧ ∃ ι g ds d g', RelG K H ι g ∧ RelL K H ι ds vs ∧ fn ds g = some (d, g') ∧ Post K H ι d g' Q
mutual
noncomputable def noR (n : Nat) : D → Bool
  | .ref k => decide (k < n)
  | .tup xs => noRs n xs
  | .lst xs => noRs n xs
  | _ => true
noncomputable def noRs (n : Nat) : List D → Bool
  | [] => true
  | d :: ds => noR n d && noRs n ds
end
noncomputable def settle (n : Nat) (d : D) (g' : G) : Option (D × G) :=
  if g'.length = n then some (d, g') else
    if (g'.take n).all (noRs n) then
      match d with
      | .ref k => if k < n then some (d, g'.take n) else match g'[k]? with
        | some xs => if noRs n xs then some (.lst xs, g'.take n) else none
        | none => none
      | d => if noR n d then some (d, g'.take n) else none
    else none
noncomputable def runFn (keep : Bool) (nN nP : Nat) (b : FS) : Fn := fun ds g =>
  if ds.length = nP then (b (ds.map some ++ List.replicate (nN - nP) none) g).bind fun r => match r.1 with
    | .rt d => if keep then some (d, r.2.2) else settle g.length d r.2.2
    | .nx => if keep then some (.non, r.2.2) else settle g.length .non r.2.2
    | _ => none
  else none
noncomputable def Ix.cut (ι : Ix) (n : Nat) : Ix := ⟨ι.ix.take n, ι.hd⟩
mutual
theorem Rel.cut {K H ι} (n : Nat) : ∀ (d : D) {v : V}, noR n d = true → Rel K H ι d v → Rel K H (Ix.cut ι n) d v
  | .non, v, _, h => by simpa [Rel] using h
  | .bl _, v, _, h => by simpa [Rel] using h
  | .int _, v, _, h => by simpa [Rel] using h
  | .str _, v, _, h => by simpa [Rel] using h
  | .tup xs, v, z, h => by
    simp only [Rel] at h ⊢
    obtain ⟨a, vs, e1, hq, hr⟩ := h
    refine ⟨a, vs, e1, ?_, RelL.cut n xs z hr⟩
    rcases hq with ⟨hq, hn⟩ | hq
    · exact .inl ⟨hq, fun m => hn (List.mem_of_mem_take m)⟩
    · exact .inr hq
  | .lst xs, v, z, h => by
    simp only [Rel] at h ⊢
    obtain ⟨a, vs, e1, hq, hr⟩ := h
    refine ⟨a, vs, e1, ?_, RelL.cut n xs z hr⟩
    rcases hq with ⟨hq, hn, hh⟩ | hq
    · exact .inl ⟨hq, fun m => hn (List.mem_of_mem_take m), hh⟩
    · exact .inr hq
  | .edc, v, _, h => by
    simp only [Rel] at h ⊢
    obtain ⟨a, e1, hq, hr⟩ := h
    exact ⟨a, e1, hq, fun m => hr (List.mem_of_mem_take m)⟩
  | .ref k, v, z, h => by
    simp only [Rel] at h ⊢
    obtain ⟨a, e1, hq⟩ := h
    have z' : k < n := of_decide_eq_true z
    exact ⟨a, e1, by show (ι.ix.take n)[k]? = some a; rw [List.getElem?_take_of_lt z']; exact hq⟩
theorem RelL.cut {K H ι} (n : Nat) : ∀ (ds : List D) {vs : List V}, noRs n ds = true → RelL K H ι ds vs → RelL K H (Ix.cut ι n) ds vs
  | [], vs, _, h => by simpa [RelL] using h
  | d :: ds, vs, z, h => by
    simp only [RelL] at h ⊢
    simp only [noRs, Bool.and_eq_true] at z
    obtain ⟨v, vr, e1, hq, hr⟩ := h
    exact ⟨v, vr, e1, Rel.cut n d z.1 hq, RelL.cut n ds z.2 hr⟩
end
theorem RelG.cut {K H ι g} (n : Nat) (h : RelG K H ι g) (z : (g.take n).all (noRs n) = true) : RelG K H (Ix.cut ι n) (g.take n) := by
  refine ⟨h.nd.sublist (List.take_sublist _ _), by simp [Ix.cut, h.len], fun b hb => ⟨fun m => (h.hid b hb).1 (List.mem_of_mem_take m), (h.hid b hb).2⟩, fun i xs q => ?_⟩
  have hi : i < n := by
    have := (List.getElem?_eq_some_iff.mp q).1
    rw [List.length_take] at this; omega
  rw [List.getElem?_take_of_lt hi] at q
  obtain ⟨a, vs, h1, h2, h3⟩ := h.at_ i xs q
  refine ⟨a, vs, (by show (ι.ix.take n)[i]? = some a; rw [List.getElem?_take_of_lt hi]; exact h1), h2, RelL.cut n xs ?_ h3⟩
  exact List.all_eq_true.mp z xs (List.mem_of_getElem? (i := i) (by rw [List.getElem?_take_of_lt hi]; exact q))
theorem Ext.cut {H ι H' ι' n} (e : Ext H ι H' ι') (hn : ι.ix.length = n) : Ext H ι H' (Ix.cut ι' n) := by
  obtain ⟨m, e1, f⟩ := e.more
  refine ⟨e.same, e.there, ⟨[], ?_, fun _ z => by simp at z⟩, e.hid⟩
  subst hn
  show ι'.ix.take _ = _
  rw [e1]; simp
theorem settle_ok {K H ι g H' ι' g' d g'' dd v} (G0 : RelG K H ι g) (e : Ext H ι H' ι') (G1 : RelG K H' ι' g') (r : Rel K H' ι' d v) (h : settle g.length d g' = some (dd, g'')) :
    ∃ ι'', Ext H ι H' ι'' ∧ RelG K H' ι'' g'' ∧ Rel K H' ι'' dd v := by
  unfold settle at h
  split at h
  · cases h; exact ⟨ι', e, G1, r⟩
  split at h
  · rename_i z
    refine ⟨Ix.cut ι' g.length, e.cut G0.len, ?_⟩
    have Gc := G1.cut g.length z
    split at h
    · rename_i k
      split at h
      · rename_i hk
        cases h
        exact ⟨Gc, Rel.cut _ _ (decide_eq_true hk) r⟩
      · rename_i hk
        split at h
        · rename_i xs hx
          split at h
          · rename_i hz
            cases h
            refine ⟨Gc, ?_⟩
            simp only [Rel] at r ⊢
            obtain ⟨a, rfl, ha⟩ := r
            obtain ⟨vs, hv, hr⟩ := G1.at hx ha
            refine ⟨a, vs, rfl, .inl ⟨.inl hv, fun m => ?_, fun m => (G1.hid a m).1 (List.mem_of_getElem? ha)⟩, RelL.cut _ _ hz hr⟩
            obtain ⟨j, hj, ej⟩ := List.mem_iff_getElem.mp (show a ∈ ι'.ix.take g.length from m)
            have hjl : j < g.length := by rw [List.length_take] at hj; omega
            have hj' : j < ι'.ix.length := by rw [List.length_take] at hj; omega
            rw [List.getElem_take] at ej
            obtain ⟨hk', ek⟩ := List.getElem?_eq_some_iff.mp ha
            have : j = k := (List.getElem_inj G1.nd).mp (ej.trans ek.symm)
            omega
          · cases h
        · cases h
    · split at h
      · rename_i hz
        cases h
        exact ⟨Gc, Rel.cut _ _ hz r⟩
      · cases h
  · cases h
section
variable {P : Program} {w : World} {K : PySem.W.Frag} {mg : Str → Option Value} {base : Heap}
theorem fn_none {k n f fd ps} {fn : Fn} (hn : ∀ ds g, fn ds g = none) : FnOk P w K mg base CX0 k f fd ps (spD K n fn) :=
  ⟨fun vs H Q E ⟨_, ι, g, ds, d, g', _, _, h, _⟩ => (by rw [hn] at h; cases h), fun A outer s H args us vs Q E _ _ _ _ ⟨_, ι, g, ds, d, g', _, _, h, _⟩ => (by rw [hn] at h; cases h)⟩
theorem relS_start {K H ι ds vs} {N : List Str} (r : RelL K H ι ds vs) (hl : ds.length ≤ N.length) : RelS K H ι (ds.map some ++ List.replicate (N.length - ds.length) none) (L2.start N vs) := by
  have e := r.length
  refine ⟨by unfold L2.start; simp [e], fun i d q => ?_⟩
  have hi : i < ds.length := by
    by_cases hi : i < ds.length
    · exact hi
    · rw [List.getElem?_append_right (by simpa using hi), List.getElem?_replicate] at q
      split at q <;> cases q
  rw [List.getElem?_append_left (by simpa using hi), List.getElem?_map] at q
  cases hd : ds[i]? with
  | none => rw [hd] at q; cases q
  | some d' =>
    rw [hd] at q; cases q
    obtain ⟨v, hv, rv⟩ := r.get hd
    refine ⟨v, ?_, rv⟩
    unfold L2.start
    rw [List.getElem?_append_left (by rw [List.length_map, ← e]; exact hi), List.getElem?_map, hv]; rfl
theorem fn_ok {x qual : Str} {st : Stmt} {f : Addr} {fd : FuncData} {N ps : List Str} {k : Nat} {keep : Bool} {b : FS} (F : Fun K x qual st f fd) (S : FnScope N ps (defScope st)) (hN : ps.length ≤ N.length)
    (hb : ∀ (cdv : Value) (A : Around) (outer : List Env) (s : Shared) (H : Hp) (E : XK), Room k (A.deeper (envOfC qual (defScope st) s.heap.objs.size f cdv)) →
      DSs (cxOf CX0 P w K mg base N qual (defScope st) f cdv A outer s H E).nox (defBody st) b) : FnOk P w K mg base CX0 (k + 1) f fd ps (spD K ps.length (runFn keep N.length ps.length b)) := by
  refine F.ok S (fun vs H Q E h => h.1) (fun cdv A outer s H vs Q E hr h => ?_)
  obtain ⟨hl, ι, g, ds, d, g', G0, r, h, p⟩ := h
  refine ⟨_, (hb cdv A outer s H E hr).un, ?_⟩
  unfold runFn at h
  have hds : ds.length = ps.length := by rw [r.length]; exact hl
  rw [if_pos hds] at h
  obtain ⟨⟨r1, σ1, g1⟩, h1, h⟩ := bind_some h
  refine ⟨ι, _, g, r1, σ1, g1, G0, relS_start r (by rw [hds]; exact hN), by rw [hds]; exact h1, fun H1 ι1 e1 G1 => ?_⟩
  have fin : ∀ {dd v}, Rel K H1 ι1 dd v → (if keep then some (dd, g1) else settle g.length dd g1) = some (d, g') → Q v H1 := fun {dd v} rv hh => by
    cases keep with
    | true => simp only [if_true] at hh; cases hh; exact p H1 ι1 v e1 G1 rv
    | false =>
      simp only [Bool.false_eq_true, if_false] at hh
      obtain ⟨ι2, e2, G2, r2⟩ := settle_ok G0 e1 G1 rv hh
      exact p H1 ι2 v e2 G2 r2
  cases r1 with
  | rt dd => exact fun v rv => fin rv h
  | nx => exact fun σ' S' => fin (v := .non) (by simp [Rel]) h
  | bk => cases h
  | ct => cases h
end
section
variable {X : Cx} {x : Str} {p pos : Pos} {e : Expr} {es : List Expr} {fr : FA} {k : Nat} {f : Addr} {fd : FuncData} {ps : List Str} {fn : Fn} {n : Nat}
noncomputable def fCall (fn : Fn) (fr : FA) : FE := fun σ g => (fr σ g).bind fun r => fn r.1 r.2
theorem tCall_of {K} {n : Nat} (hn : ∀ ds g r, fn ds g = some r → ds.length = n) {σ : L2.St} {H : Hp} {Q : VK} (h : tD K (fCall fn fr) σ H Q) : tCall (spD K n fn) [] E0 (tDA K fr) σ H Q := by
  obtain ⟨ι, σd, g, d, g', G0, S0, h, p⟩ := h
  obtain ⟨⟨ds, g1⟩, h1, h⟩ := bind_some h
  refine tDA.bind G0 S0 h1 fun H1 ι1 vs e1 G1 S1 r1 => ?_
  rw [List.append_nil]
  exact ⟨by rw [← r1.length]; exact hn _ _ _ h, ι1, g1, ds, d, g', G1, r1, h, p.mono e1⟩
theorem de_call (F : FnOk X.prog X.w X.K X.mg X.base CX0 k f fd ps (spD X.K n fn)) (hr : Room k X.A) (hm : X.mg x = some (.ref f)) (hk : PySem.W.keepIn X.K (.ref f) = true) (hb : Binds X.K fd ps []) (hn : ∀ ds g r, fn ds g = some r → ds.length = n)
    (ha : DA X (e :: es) fr) (hg : Gl X x := by rfl) (hdb : (x == ("__debug__" : Str)) = false := by decide) (he : starEach (e :: es) X.env = (false, eval e X.env) :: starEach es X.env := by rfl) (hpl : (backTo pos (starEach es X.env)).any (·.1) = false := by rfl) :
    DE X (.Call (.Name x p) (e :: es) [] pos) (fCall fn fr) := .of (
  PE.imp (pe_call F hr hg hm hk hb .nil pass0 ha.un hdb he hpl) fun σ H Q h => tCall_of hn h)
theorem runFn_len {keep : Bool} {nN nP : Nat} {b : FS} : ∀ ds g r, runFn keep nN nP b ds g = some r → ds.length = nP := fun ds g r h => by
  unfold runFn at h
  split at h
  · assumption
  · cases h
theorem de_callB {id : String} {o : Fn} (hc : CallR X (.builtin id) (rDL X.K o)) (hm : X.mg x = none) (hv : bootBuiltins x = some (.builtin id)) (ha : DA X (e :: es) fr) (hg : Gl X x := by rfl) (hn : x ≠ "__name__" := by decide) (hdb : (x == ("__debug__" : Str)) = false := by decide)
    (he : starEach (e :: es) X.env = (false, eval e X.env) :: starEach es X.env := by rfl) (hpl : (backTo pos (starEach es X.env)).any (·.1) = false := by rfl) : DE X (.Call (.Name x p) (e :: es) [] pos) (fCall o fr) := .of (
  PE.imp (pe_callB hc hg hm hv ha.un hn hdb he hpl) fun σ H Q h => by
    obtain ⟨ι, σd, g, d, g', G0, S0, h, p⟩ := h
    obtain ⟨⟨ds, g1⟩, h1, h⟩ := bind_some h
    exact tDA.bind G0 S0 h1 fun H1 ι1 vs e1 G1 S1 r1 => ⟨ι1, g1, ds, d, g', G1, r1, h, p.mono e1⟩)
theorem de_callTy {T : String} {o : Fn} (hc : CallR X (.type T) (rDL X.K o)) (hm : X.mg x = none) (hv : bootBuiltins x = some (.type T)) (ha : DA X (e :: es) fr) (hg : Gl X x := by rfl) (hn : x ≠ "__name__" := by decide) (hdb : (x == ("__debug__" : Str)) = false := by decide)
    (he : starEach (e :: es) X.env = (false, eval e X.env) :: starEach es X.env := by rfl) (hpl : (backTo pos (starEach es X.env)).any (·.1) = false := by rfl) : DE X (.Call (.Name x p) (e :: es) [] pos) (fCall o fr) := .of (
  PE.imp (pe_callTy hc hg hm hv ha.un hn hdb he hpl) fun σ H Q h => by
    obtain ⟨ι, σd, g, d, g', G0, S0, h, p⟩ := h
    obtain ⟨⟨ds, g1⟩, h1, h⟩ := bind_some h
    exact tDA.bind G0 S0 h1 fun H1 ι1 vs e1 G1 S1 r1 => ⟨ι1, g1, ds, d, g', G1, r1, h, p.mono e1⟩)
end
end L3
namespace L3
open PySem PySem.Spec PyProof.Rows L2
noncomputable def clOf (scope : Scope) (env : Env) : List (Str × Addr) := (scope.names.filterMap fun x => if x.2 == .free then (env.cells.lookup x.1).map fun c => (x.1, c) else none).reverse
theorem closureFor_of {scope : Scope} {env : Env} (h : ∀ x ∈ scope.names, x.2 = .free → ∃ c, env.cells.lookup x.1 = some c) : closureFor scope env = pure (clOf scope env) := by
  have key : ∀ (l : List (Str × NameKind)) (acc : List (Str × Addr)), (∀ x ∈ l, x.2 = .free → ∃ c, env.cells.lookup x.1 = some c) →
      (forIn l acc fun x r => if (x.2 == NameKind.free) = true then (do let c ← cellOf env x.1; pure (ForInStep.yield ((x.1, c) :: r))) else pure (ForInStep.yield r) : Sem (List (Str × Addr))) =
        pure ((l.filterMap fun x => if x.2 == .free then (env.cells.lookup x.1).map fun c => (x.1, c) else none).reverse ++ acc) := by
    intro l
    induction l with
    | nil => intro acc _; rfl
    | cons x r ih =>
      intro acc hx
      rw [List.forIn_cons]
      by_cases hk : x.2 = .free
      · obtain ⟨c, hc⟩ := hx x List.mem_cons_self hk
        have hb : (x.2 == NameKind.free) = true := by rw [hk]; rfl
        rw [if_pos hb]
        simp only [cellOf, hc, pure_bind, List.filterMap_cons, hb, if_true, Option.map_some, List.reverse_cons, List.append_assoc, List.singleton_append]
        exact ih _ fun y hy => hx y (List.mem_cons_of_mem _ hy)
      · have hb : (x.2 == NameKind.free) = false := by simpa using hk
        simp only [hb, Bool.false_eq_true, if_false, pure_bind, List.filterMap_cons]
        exact ih _ fun y hy => hx y (List.mem_cons_of_mem _ hy)
  have := key scope.names [] h
  rw [List.append_nil] at this
  unfold closureFor clOf
  simp only [bind_pure_comp] at this ⊢
  first
    | (simpa using this)
    | exact this
noncomputable def compCx (X : Cx) (N : List Str) (scope : Scope) (C : Addr) (s3 : Shared) (H : Hp) (fp : List Addr) (pins : List (Addr × Obj)) : Cx where
  prog := X.prog
  w := X.w
  K := X.K
  mg := X.mg
  base := X.base
  A := X.A
  N := N
  s₀ := s3
  H₀ := H
  env := compEnvC scope (clOf scope X.env) C X.env
  outer := X.stack
  stack := X.stack
  ex := fp
  calm := X.calm
  fn := fun _ => false
  pn := X.pn ++ pins
  xe := fun _ _ => False
structure CompOk (X : Cx) (N : List Str) (fr : List (Option Nat)) (scope : Scope) : Prop where
  kind : scope.kind = .function
  nocell : ∀ y ∈ scope.names, y.2 ≠ .cell
  names : ∀ y ∈ scope.names, y.2 = .local → scope.names.lookup y.1 = some .local
  free : ∀ y ∈ scope.names, y.2 = .free → scope.names.lookup y.1 = some .free ∧ (X.env.kindOf y.1 = some .cell ∨ X.env.kindOf y.1 = some .free)
  len : fr.length = N.length
  slots : ∀ (j i : Nat), fr[j]? = some (some i) → ∃ x, N[j]? = some x ∧ X.N[i]? = some x ∧ scope.names.lookup x = some .free
noncomputable def subS {α : Type} (fr : List (Option Nat)) (σ : List (Option α)) : List (Option α) := fr.map fun o => match o with | some i => (σ[i]?).join | none => none
theorem relabel_kind {scope : Scope} {env : Env} : (relabel scope env).kind = scope.kind := rfl
theorem clOf_mem {scope : Scope} {env : Env} {x : Str} {c : Addr} (h : (x, c) ∈ clOf scope env) : (x, NameKind.free) ∈ scope.names ∧ env.cells.lookup x = some c := by
  unfold clOf at h
  rw [List.mem_reverse, List.mem_filterMap] at h
  obtain ⟨y, hy, e⟩ := h
  split at e
  · rename_i hk
    cases hc : env.cells.lookup y.1 with
    | none => rw [hc] at e; cases e
    | some c' =>
      rw [hc] at e
      cases e
      have : y.2 = NameKind.free := by simpa using hk
      exact ⟨by rw [← this]; exact hy, hc⟩
  · cases e
theorem lookup_mem_of {α : Type} : ∀ {l : List (Str × α)} {x : Str} {c : α}, (x, c) ∈ l → ∃ d, l.lookup x = some d
  | [], _, _, h => nomatch h
  | (y, d) :: r, x, c, h => by
    by_cases e : x = y
    · subst e; exact ⟨d, by simp⟩
    · rcases List.mem_cons.mp h with z | z
      · cases z; exact absurd rfl e
      · obtain ⟨d', q⟩ := lookup_mem_of z
        exact ⟨d', by rw [List.lookup_cons]; simp [show (x == y) = false by simpa using e, q]⟩
theorem clOf_lookup {scope : Scope} {env : Env} {x : Str} {c : Addr} (h : (clOf scope env).lookup x = some c) : (x, NameKind.free) ∈ scope.names ∧ env.cells.lookup x = some c := clOf_mem (PySem.mem_of_lookup h)
theorem clOf_has {scope : Scope} {env : Env} {x : Str} {c : Addr} (hx : (x, NameKind.free) ∈ scope.names) (hc : env.cells.lookup x = some c) : (clOf scope env).lookup x = some c := by
  have m : (x, c) ∈ clOf scope env := by
    unfold clOf
    rw [List.mem_reverse, List.mem_filterMap]
    exact ⟨_, hx, by simp [hc]⟩
  obtain ⟨d, q⟩ := lookup_mem_of m
  have := (clOf_lookup q).2
  rw [hc] at this; cases this
  exact q
theorem kind_relabel {scope : Scope} {env : Env} {x : Str} (h : (relabel scope env).names.lookup x = some .cell ∨ (relabel scope env).names.lookup x = some .free) (hn : ∀ y ∈ scope.names, y.2 ≠ .cell) : (x, NameKind.free) ∈ scope.names := by
  have m : ∃ k, (x, k) ∈ (relabel scope env).names ∧ (k = .cell ∨ k = .free) := by
    rcases h with h | h
    · exact ⟨_, PySem.mem_of_lookup h, .inl rfl⟩
    · exact ⟨_, PySem.mem_of_lookup h, .inr rfl⟩
  obtain ⟨k, m, hk⟩ := m
  unfold relabel at m
  rw [List.mem_map] at m
  obtain ⟨⟨n, k'⟩, hm, e⟩ := m
  dsimp only at e
  split at e
  · rename_i z
    cases e
    simp only [Bool.and_eq_true] at z
    have : k' = NameKind.free := by simpa using z.1.1
    subst this
    exact hm
  · cases e
    rcases hk with rfl | rfl
    · exact absurd rfl (hn _ hm)
    · exact hm
theorem lookup_relabel_free {env : Env} : ∀ {names : List (Str × NameKind)} {x : Str}, names.lookup x = some .free →
    (names.map fun (n, k) => if (k == NameKind.free && env.scope.kind == .function && env.kindOf n == some .cell) then (n, NameKind.cell) else (n, k)).lookup x = some .cell ∨
    (names.map fun (n, k) => if (k == NameKind.free && env.scope.kind == .function && env.kindOf n == some .cell) then (n, NameKind.cell) else (n, k)).lookup x = some .free
  | [], _, h => by simp at h
  | (n, k) :: r, x, h => by
    have ih := @lookup_relabel_free env r x
    show List.lookup x ((if (k == NameKind.free && env.scope.kind == .function && env.kindOf n == some .cell) = true then (n, NameKind.cell) else (n, k)) :: _) = _ ∨ List.lookup x ((if (k == NameKind.free && env.scope.kind == .function && env.kindOf n == some .cell) = true then (n, NameKind.cell) else (n, k)) :: _) = _
    cases hx : x == n with
    | true =>
      simp only [List.lookup_cons, hx] at h
      cases h
      split
      · left; simp [List.lookup_cons, hx]
      · right; simp [List.lookup_cons, hx]
    | false =>
      simp only [List.lookup_cons, hx] at h
      split
      · simp only [List.lookup_cons, hx]; exact ih h
      · simp only [List.lookup_cons, hx]; exact ih h
section
variable {X : Cx} {pins : List (Addr × Obj)} {σ : L2.St} {H : Hp} {s3 : Shared}
theorem comp_enter {N : List Str} {fr : List (Option Nat)} {scope : Scope} {fp : List Addr} {h1 : Heap} {tk : Nat} (ok : CompOk X N fr scope) (I : Inv X pins σ H s3) (hf : ∀ b ∈ fp, FpOk X pins H b) (hfl : ∀ b ∈ fp, b < s3.heap.objs.size)
    (hns : h1.Ns s3.heap.objs.size fun _ => none) (hk : ∀ b o, s3.heap.get? b = some o → h1.get? b = some o) :
    Inv (compCx X N scope s3.heap.objs.size s3 H fp pins) [] (subS fr σ) H { s3 with heap := h1, toks := tk } := by
  have I1 : Inv X pins σ H { s3 with heap := h1, toks := tk } := I.kept hk
  have stk : ∀ b ∈ frs X.stack, b ∈ X.env.locals :: X.fs := I.stkSub
  refine ⟨⟨I.ok.mod, ?_, I.ok.glob, I.ok.blt, Nat.le_refl _, ?_, ?_, (fun x c z => Bool.noConfusion (show false = true from z)), I.ok.hd, I.ok.frames, .inl rfl, ?_, I.bs, Nat.le_trans I.ok.bsz I.sz, ?_, ?_, I.stack, I.stkFree⟩, rfl, I.bare, Un.kept hk,
    ⟨_, hns, ?_⟩, ?_, I.hok.fresh (Nat.le_refl _), ?_, ?_, I1.hok, ?_⟩
  · show (relabel scope X.env).kind = .function
    rw [relabel_kind]; exact ok.kind
  · intro x y c h1 h2
    exact I.ok.inj x y c (clOf_lookup h1).2 (clOf_lookup h2).2
  · intro x hx
    have m := kind_relabel (scope := scope) (env := X.env) hx ok.nocell
    obtain ⟨c, hc⟩ := I.ok.has x (ok.free _ m rfl).2
    exact ⟨c, clOf_has m hc⟩
  · intro b hb
    refine ⟨Nat.ne_of_lt (hfl b hb), fun x c e => ?_⟩
    exact (hf b hb).2.2.2.2.1 x c (clOf_lookup e).2
  · intro b o e hb
    obtain ⟨_, _, _, z, _⟩ := hf b hb
    rcases z with z | z
    · exact I.ok.noex b o e z
    · exact absurd (Nat.lt_of_lt_of_le (Nat.lt_of_lt_of_le (Heap.lt_size e) I.ok.bsz) z) (Nat.lt_irrefl _)
  · intro b hb z
    obtain ⟨_, n1, n2, _⟩ := hf b hb
    rcases List.mem_cons.mp (stk b z) with q | q
    · exact n1 q
    · exact n2 q
  · intro j x v h1 h2 h3
    have h2' : (subS fr σ)[j]? = some (some v) := h2
    unfold subS at h2'
    rw [List.getElem?_map] at h2'
    cases hfr : fr[j]? with
    | none => rw [hfr] at h2'; cases h2'
    | some o =>
      rw [hfr] at h2'
      cases o with
      | none => cases h2'
      | some i =>
        obtain ⟨y, hy, hi, hfree⟩ := ok.slots j i hfr
        have e : x = y := by
          have h1' : N[j]? = some x := h1
          rw [hy] at h1'; cases h1'; rfl
        subst e
        have hσ : σ[i]? = some (some v) := by
          simp only [Option.map_some, Option.some.injEq] at h2'
          cases q : σ[i]? with
          | none => rw [q] at h2'; cases h2'
          | some w => rw [q] at h2'; simp at h2'; rw [h2']
        have m := PySem.mem_of_lookup hfree
        obtain ⟨_, hkind⟩ := ok.free _ m rfl
        obtain ⟨mm, hn, hl⟩ := I1.loc
        obtain ⟨u, ru, lk⟩ := hl i x v hi hσ (by rcases hkind with k | k; exact .inr (.inl k); exact .inr (.inr k))
        refine ⟨u, ru, .inr ⟨lookup_relabel_free hfree, ?_⟩⟩
        rcases lk with ⟨kl, _⟩ | ⟨_, c, hc, hcell⟩
        · rcases hkind with k | k <;> (rw [k] at kl; cases kl)
        · exact ⟨c, clOf_has m hc, hcell⟩
  · intro x c e
    exact I1.cell x c (clOf_lookup e).2
  · intro x c e
    exact I.freeC x c (clOf_lookup e).2
  · intro p hp
    have hp' : p ∈ X.pn ++ pins := by
      have q : p ∈ (X.pn ++ pins) ++ [] := hp
      simpa using q
    obtain ⟨e, n, ne, nf, d⟩ := I1.pin p hp'
    refine ⟨e, n, Nat.ne_of_lt ?_, fun z => ?_, d⟩
    · exact Heap.lt_size (I.pin p hp').1
    · rcases List.mem_cons.mp (stk _ z) with q | q
      · exact ne q
      · exact nf q
  · show (subS fr σ).length = N.length
    unfold subS; rw [List.length_map]; exact ok.len
end
noncomputable def compL (t : FG) (c : FT) (e : FE) : List D → Sg → G → Option (List D × G)
  | [], _, g => some ([], g)
  | d :: ds, σ, g => (t d σ g).bind fun q => (c q.1 q.2).bind fun k => if k.1 = true then (e q.1 k.2).bind fun r => (compL t c e ds q.1 r.2).bind fun z => some (r.1 :: z.1, z.2) else compL t c e ds q.1 k.2
noncomputable def PIfs (X : Cx) (ifs : List Expr) (t : TT) : Prop :=
  ∀ (pins : List (Addr × Obj)) (s : Shared) (σ : L2.St) (H : Hp) (Q : Bool → Hp → Prop), Inv X pins σ H s → t σ H Q →
    wpAny (model X.prog X.w) X.A (forIn ifs true fun c r => if r = true then do let ok ← isTrue c X.env (eval c X.env); pure (ForInStep.yield ok) else pure (ForInStep.yield r)) (TP X pins σ Q) X.xe s
structure DIfs (X : Cx) (ifs : List Expr) (f : FT) : Prop where of ::
  un : PIfs X ifs (tDT X.K f)
noncomputable def fTrue : FT := fun _ g => some (true, g)
theorem difs_nil {X : Cx} : DIfs X [] fTrue := .of (fun pins s σ H Q I h => by
  obtain ⟨ι, σd, g, b, g', G0, S0, h, p⟩ := h
  cases h
  exact wpAny_tests_nil ⟨H, I, p H ι Ext.refl G0⟩)
theorem difs_one {X : Cx} {c : Expr} {f : FT} (h : DT X c f) : DIfs X [c] f := .of (fun pins s σ H Q I q => wpAny_tests_one (h.un pins s σ H Q I q))
theorem Ext.hideT {H1 ι1 H' ιo p H'' ι''} (a : Ext H1 ι1 H' ιo) (b : Ext H' (Ix.hide ιo p) H'' ι'') : Ext H1 ι1 H'' ⟨ι''.ix, ιo.hd⟩ ∧ ι'' = Ix.hide ⟨ι''.ix, ιo.hd⟩ p := by
  have hh : ι''.hd = p :: ιo.hd := b.hid
  obtain ⟨m1, e1, f1⟩ := a.more
  obtain ⟨m2, e2, f2⟩ := b.more
  refine ⟨⟨fun c o h n => b.same c o (a.same c o h n) (a.old h n), fun c h => b.there c (a.there c h), ⟨m1 ++ m2, ?_, fun c z => ?_⟩, a.hid⟩, ?_⟩
  · show ι''.ix = _
    rw [e2]; show ιo.ix ++ m2 = _
    rw [e1, List.append_assoc]
  · rcases List.mem_append.mp z with z | z
    · exact f1 c z
    · cases q : H1 c with
      | none => rfl
      | some o => exact absurd (f2 c z) (a.there c (by rw [q]; simp))
  · cases ι'' with
    | mk ix hd => dsimp only at hh; rw [hh]; rfl
theorem Ext.growN {H1 ι1 H' ιo p o} (a : Ext H1 ι1 H' ιo) (hp : H1 p = none) : Ext H1 ι1 (upd H' p o) ιo :=
  ⟨fun c u h n => by rw [upd_ne (ne_of_none h hp)]; exact a.same c u h n, fun c h => by
    by_cases e : c = p
    · subst e; rw [upd_same]; simp
    · rw [upd_ne e]; exact a.there c h, a.more, a.hid⟩
theorem Ext.exhH {H1 ι1 H' ιo p} (a : Ext H1 ι1 H' ιo) (hp : H1 p = none) : Exh H1 ι1 H' (Ix.hide ιo p) :=
  ⟨a.same, a.there, a.more, ⟨[p], by show p :: ιo.hd = _; rw [a.hid]; rfl, fun b z => by simp at z; subst z; exact hp⟩⟩
inductive CompI (X' : Cx) (t : FG) (c : FT) (e : FE) (fp : List Addr) (Dl : Addr) (tn : Nat → Heap → Prop) (ds all : List D) (H1 : Hp) (ι1 : Ix) (g' : G) (n : Nat) (s : Shared) : Prop
  | mk (i : Nat) (σ : L2.St) (H : Hp) (ιo : Ix) (σd : Sg) (g : G) (vs : List V) (acc more : List D) (hn : n = ds.length + 1 - i) (hil : i ≤ ds.length) (I : Inv X' [] σ H s) (ti : tn i s.heap) (fri : ∀ b ∈ fp, H b = none) (E1 : Ext H1 ι1 H ιo) (G1 : RelG X'.K H (Ix.hide ιo Dl) g) (S1 : RelS X'.K H (Ix.hide ιo Dl) σd σ)
      (hHD : H Dl = some (.lst vs)) (racc : RelL X'.K H (Ix.hide ιo Dl) acc vs) (hal : acc.length ≤ i) (hf : compL t c e (ds.drop i) σd g = some (more, g')) (ea : all = acc ++ more) : CompI X' t c e fp Dl tn ds all H1 ι1 g' n s
theorem comp_loop {X' : Cx} {tg iter elt : Expr} {ifs : List Expr} {scope : Scope} {pos : Pos} {t : FG} {c : FT} {e : FE} {J : It} {fp : List Addr} {it Dl : Addr} {tn : Nat → Heap → Prop} {ds all : List D} {H1 : Hp} {ι1 : Ix} {g' : G} {R : Result → Shared → Prop}
    (hxe : X'.xe = fun _ _ => False) (hc : X'.calm = true) (T : Turn X'.prog X'.w X'.K tg J fp it tn) (hfp : ∀ b ∈ fp, FpOk X' [] X'.H₀ b) (J1 : ItOk X'.K J H1 ι1 ds) (hD : H1 Dl = none) (hz : ds.length ≤ sizeLine)
    (hg : DG X' tg t) (hi : DIfs X' ifs c) (he : DE X' elt e)
    (fin : ∀ s' σ' H' ιo vs, Inv X' [] σ' H' s' → (∀ b ∈ fp, H' b = none) → Ext H1 ι1 H' ιo → RelG X'.K H' (Ix.hide ιo Dl) g' → H' Dl = some (.lst vs) → RelL X'.K H' (Ix.hide ιo Dl) all vs → R (.ok .next) s') :
    ∀ (s : Shared) (σ : L2.St) (H : Hp) (ιo : Ix) (σd : Sg) (g : G), Inv X' [] σ H s → tn 0 s.heap → (∀ b ∈ fp, H b = none) → Ext H1 ι1 H ιo → RelG X'.K H (Ix.hide ιo Dl) g → RelS X'.K H (Ix.hide ιo Dl) σd σ → H Dl = some (.lst []) → compL t c e ds σd g = some (all, g') →
      codeAny (model X'.prog X'.w) X'.A (.compLoop (.ListComp elt [⟨tg, iter, ifs, 0⟩] scope pos) 0 (.ref it) (.ref Dl) X'.env) R s := by
  intro s σ H ιo σd g I t0 fr0 E0 G0 S0 hH hf0
  have stat : ∀ {H' : Hp}, (∀ b ∈ fp, H' b = none) → ∀ b ∈ fp, FpOk X' [] H' b := fun hn b hb => ⟨hn b hb, (hfp b hb).2⟩
  refine codeAny_loop rfl (CompI X' t c e fp Dl tn ds all H1 ι1 g') ?_ (ds.length + 1)
    ⟨0, σ, H, ιo, σd, g, [], [], all, rfl, Nat.zero_le _, I, t0, fr0, E0, G0, S0, hH, by simp [RelL], Nat.le_refl _, by simpa using hf0, rfl⟩
  clear hf0 hH S0 G0 E0 fr0 t0 I g σd ιo H σ s
  rintro n s ⟨i, σ, H, ιo, σd, g, vs, acc, more, rfl, hil, I, ti, fri, E1, G1, S1, hHD, racc, hal, hf, rfl⟩
  show wpAny _ X'.A ((compTurn (.ListComp elt [⟨tg, iter, ifs, 0⟩] scope pos) 0 (.ref it) (.ref Dl) X'.env).onRaise (fun x => do noteFrame x X'.env; theTreesLotGoes x)) _ _ s
  refine wpAny_noted ?_
  rw [compTurn_list]
  refine wpAny_bind (wpAny_standAt (wpAny_bind ?_))
  obtain ⟨st, go⟩ := J1 i H (Ix.hide ιo Dl) g (E1.exhH hD) G1
  by_cases hlt : i < ds.length
  · obtain ⟨go, yl⟩ := go ds[i] (List.getElem?_eq_getElem hlt)
    refine thn (T.item X' rfl rfl rfl hc i [] s σ H _ I (stat fri) ti go) fun r s4 ⟨u, hr, h4⟩ => ?_
    subst hr
    refine wpAny_bind (thn h4 fun _ s5 ⟨x, H5, I5, r5, y5, t5, fr5⟩ => ?_)
    obtain ⟨e5, G5, rd5⟩ := yl x H5 y5
    rw [List.drop_eq_getElem_cons hlt] at hf
    simp only [compL] at hf
    obtain ⟨⟨σ6, g6⟩, h6, hf⟩ := bind_some hf
    obtain ⟨⟨k7, g7⟩, h7, hf⟩ := bind_some hf
    have I5' := I5.pinned (stat fr5) (T.obj _ _ t5)
    have lift : ∀ {α : Type} {tr : Sem α} {Q : α → Shared → Prop} {E : Value → Shared → Prop} {s : Shared}, wpAny (model X'.prog X'.w) X'.A tr Q X'.xe s → wpAny (model X'.prog X'.w) X'.A tr Q E s := fun h => wpAny_mono h (fun _ _ q => q) fun _ _ z => by rw [hxe] at z; exact z.elim
    have again : ∀ {s9 : Shared} {σ9 : L2.St} {H9 : Hp} {ι9 : Ix} {σd9 : Sg} {g9 : G} {vs9 : List V} {acc9 : List D} {more9 : List D}, Inv X' ([] ++ pinsAt fp s5.heap) σ9 H9 s9 → Ext H1 ι1 H9 ι9 → RelG X'.K H9 (Ix.hide ι9 Dl) g9 → RelS X'.K H9 (Ix.hide ι9 Dl) σd9 σ9 →
        H9 Dl = some (.lst vs9) → RelL X'.K H9 (Ix.hide ι9 Dl) acc9 vs9 → acc9.length ≤ i + 1 → compL t c e (ds.drop (i + 1)) σd9 g9 = some (more9, g') → acc ++ more = acc9 ++ more9 →
        ∃ m, m < ds.length + 1 - i ∧ CompI X' t c e fp Dl tn ds (acc ++ more) H1 ι1 g' m s9 := by
      intro s9 σ9 H9 ι9 σd9 g9 vs9 acc9 more9 I9 E9 G9 S9 h9 r9 l9 f9 a9
      refine ⟨ds.length + 1 - (i + 1), by omega, i + 1, σ9, H9, ι9, σd9, g9, vs9, acc9, more9, rfl, hlt, I9.unpinned, T.keep _ _ _ t5 fun b hb o e => (I9.pin (b, o) (List.mem_append_right _ (List.mem_append_right _ (mem_pinsAt hb e)))).1, fun b hb => ?_, E9, G9, S9, h9, r9, l9, f9, a9⟩
      obtain ⟨o, e, d⟩ := T.obj _ _ t5 b hb
      exact (I9.pin (b, o) (List.mem_append_right _ (List.mem_append_right _ (mem_pinsAt hb e)))).2.1
    refine wpAny_bind (lift (thn (hg.un _ s5 σ H5 x u (fun σ' H' => ∃ ι6, Ext H5 (Ix.hide ιo Dl) H' ι6 ∧ RelG X'.K H' ι6 g6 ∧ RelS X'.K H' ι6 σ6 σ') I5' r5 ⟨Ix.hide ιo Dl, σd, g, ds[i], σ6, g6, G5, S1.ext e5, rd5, h6, fun H6 ι6 σ6' e6 G6 S6 => ⟨ι6, e6, G6, S6⟩⟩) fun _ s6 q6 => ?_))
    obtain ⟨σ6', H6, I6, ι6, e6, G6, S6⟩ := q6
    refine wpAny_bind (lift (thn (hi.un _ s6 σ6' H6 (fun b H' => b = k7 ∧ ∃ ι7, Ext H6 ι6 H' ι7 ∧ RelG X'.K H' ι7 g7) I6 ⟨ι6, σ6, g6, k7, g7, G6, S6, h7, fun H7 ι7 e7 G7 => ⟨rfl, ι7, e7, G7⟩⟩) fun ok s7 q7 => ?_))
    obtain ⟨H7, I7, rfl, ι7, e7, G7⟩ := q7
    have e57 := (e5.trans e6).trans e7
    obtain ⟨E7, ei7⟩ := E1.hideT e57
    have hD7 : H7 Dl = some (.lst vs) := e57.same Dl _ hHD (G1.hid Dl List.mem_cons_self).1
    have r7 := RelL.ext e57 _ racc
    have S7 := S6.ext e7
    cases ok with
    | false =>
      simp only [Bool.false_eq_true, if_false] at hf
      refine wpAny_pure ⟨rfl, ?_⟩
      rw [ei7] at G7 S7 r7
      exact again I7 E7 G7 S7 hD7 r7 (by omega) hf rfl
    | true =>
      simp only [if_true] at hf
      obtain ⟨⟨d8, g8⟩, h8, hf⟩ := bind_some hf
      obtain ⟨⟨more9, g9⟩, h9, hf⟩ := bind_some hf
      obtain ⟨rfl, rfl⟩ : d8 :: more9 = more ∧ g9 = g' := by cases hf; exact ⟨rfl, rfl⟩
      refine wpAny_bind (wpAny_bind (lift (thn (he.un _ s7 σ6' H7 (fun v H' => ∃ ι8, Ext H7 ι7 H' ι8 ∧ RelG X'.K H' ι8 g8 ∧ Rel X'.K H' ι8 d8 v) I7 ⟨ι7, σ6, g7, d8, g8, G7, S7, h8, fun H8 ι8 v e8 G8 r8 => ⟨ι8, e8, G8, r8⟩⟩) fun y s8 q8 => ?_)))
      obtain ⟨v8, H8, I8, rv8, ι8, e8, G8, r8⟩ := q8
      have e58 := e57.trans e8
      obtain ⟨E8, ei8⟩ := E1.hideT e58
      have hD8 : H8 Dl = some (.lst vs) := e58.same Dl _ hHD (G1.hid Dl List.mem_cons_self).1
      have racc8 := RelL.ext e58 _ racc
      have S8 := S7.ext e8
      have hlen : vs.length < sizeLine := by rw [← racc.length]; omega
      rw [ei8] at G8 S8 racc8 r8
      refine wpAny_bind (lift (thn (mt_append (X := X') _ s8 σ6' H8 (.ref Dl) [v8] (.ref Dl) [y] (fun _ H' => H' = upd H8 Dl (.lst (vs ++ [v8]))) I8 rfl (.cons rv8 .nil) ⟨Dl, vs, v8, rfl, rfl, hD8, hlen, rfl⟩) fun _ s9 q9 => ?_))
      obtain ⟨_, H9, I9, _, rfl⟩ := q9
      refine wpAny_pure (wpAny_pure ⟨rfl, ?_⟩)
      refine again (acc9 := acc ++ [d8]) I9 (E8.growN hD) (G8.grow hD8) ⟨S8.1, fun j d q => let ⟨v, a, b⟩ := S8.2 j d q; ⟨v, a, Rel.grow hD8 d b⟩⟩ upd_same ?_ (by simp; omega) h9 (by simp)
      exact RelL.append (RelL.grow hD8 _ racc8) (by simp only [RelL]; exact ⟨v8, [], rfl, Rel.grow hD8 _ r8, rfl⟩)
  · have ei : i = ds.length := by omega
    subst ei
    simp only [List.drop_length, compL] at hf
    cases hf
    refine thn (T.done X' rfl rfl rfl hc _ [] s σ H _ I (stat fri) ti (st (Nat.le_refl _))) fun r s4 ⟨hr, I4⟩ => ?_
    subst hr
    exact wpAny_pure (fin s4 σ H ιo vs I4 fri E1 G1 hHD (by simpa using racc))
noncomputable def fComp (mk : List D → G → Option (D × G)) (fi : FI) (fr : List (Option Nat)) (t : FG) (c : FT) (e : FE) : FE := fun σ g => (fi σ g).bind fun r => if szOk r.1.length = true then (compL t c e r.1 (subS fr σ) r.2).bind fun q => mk q.1 q.2 else none
noncomputable def cLst (ds : List D) (g : G) : Option (D × G) := some (.lst ds, g)
theorem RelS.sub {K H ι σd σ} (fr : List (Option Nat)) (h : RelS K H ι σd σ) : RelS K H ι (subS fr σd) (subS fr σ) := by
  refine ⟨by simp [subS], fun j d q => ?_⟩
  unfold subS at q ⊢
  rw [List.getElem?_map] at q ⊢
  cases hf : fr[j]? with
  | none => rw [hf] at q; cases q
  | some o =>
    rw [hf] at q
    cases o with
    | none => cases q
    | some i =>
      have hσ : σd[i]? = some (some d) := by
        simp only [Option.map_some, Option.some.injEq] at q
        cases z : σd[i]? with
        | none => rw [z] at q; cases q
        | some w => rw [z] at q; simp at q; rw [q]
      obtain ⟨v, hv, rv⟩ := h.2 i d hσ
      exact ⟨v, by simp [hv], rv⟩
section
variable {X : Cx} {tg iter elt : Expr} {ifs : List Expr} {scope : Scope} {pos cpos : Pos} {N : List Str} {fr : List (Option Nat)} {fi : FI} {t : FG} {c : FT} {e : FE}
theorem comp_core {pins : List (Addr × Obj)} {s : Shared} {σ : L2.St} {H : Hp} {ι : Ix} {σd : Sg} {g g1 g' : G} {ds all : List D} {use : Option (Value → Sem Unit)} {Q : Value → Shared → Prop}
    (hxe : X.xe = fun _ _ => False) (hc : X.calm = true) (ok : CompOk X N fr scope) (hit : DI X tg iter fi) (hin : ∀ C s3 H fp pins, DG (compCx X N scope C s3 H fp pins) tg t ∧ DIfs (compCx X N scope C s3 H fp pins) ifs c ∧ DE (compCx X N scope C s3 H fp pins) elt e)
    (hs : ∀ x, foldedSetIterable iter X.env x = pure x) (I : Inv X pins σ H s) (G0 : RelG X.K H ι g) (S0 : RelS X.K H ι σd σ) (h1 : fi σd g = some (ds, g1)) (hz : szOk ds.length = true) (h2 : compL t c e ds (subS fr σd) g1 = some (all, g'))
    (fin : ∀ s' H' ιo vs Dl C, Inv X pins σ H' s' → FpOk X pins H' C → (∃ m, s'.heap.Ns C m) → Ext H ι H' ιo → RelG X.K H' (Ix.hide ιo Dl) g' → H' Dl = some (.lst vs) → RelL X.K H' (Ix.hide ιo Dl) all vs → Dl ∉ ιo.hd → H Dl = none → compPost (model X.prog X.w) X.A X.xe use Q (.ref Dl) C (.ok .next) s') :
    wpAny (model X.prog X.w) X.A (comprehension (.ListComp elt [⟨tg, iter, ifs, 0⟩] scope pos) scope X.env cpos (newList []) false (eval iter X.env) use) Q X.xe s := by
  have free : ∀ x ∈ scope.names, x.2 = .free → ∃ c, X.env.cells.lookup x.1 = some c := fun x hx hk => I.ok.has x.1 (ok.free x hx hk).2
  refine wpAny_comprehension_free (use := use) rfl hs (closureFor_of free) ok.kind ok.names (thn (hit.un pins s σ H (fun J H' => ∃ ι1, Ext H ι H' ι1 ∧ RelG X.K H' ι1 g1 ∧ ItOk X.K J H' ι1 ds) I ⟨ι, σd, g, ds, g1, G0, S0, h1, fun H1 ι1 J e1 G1 J1 => ⟨ι1, e1, G1, J1⟩⟩) fun xv s1 h1' => thn h1' fun itv s2 q2 => ?_)
  obtain ⟨it, fp, tn, J, H1, rfl, I1, T, t1, f1, ι1, e1, G1, J1⟩ := q2
  refine wpAny_newObj_type ?_
  have hDn : H1 s2.heap.objs.size = none := I1.hok.fresh (Nat.le_refl _)
  generalize hs3 : ({ s2 with heap := s2.heap.push { cls := .type "list", dict := none, data := .seq ([] : List Value).toArray } } : Shared) = s3
  have I3 : Inv X pins σ (upd H1 s2.heap.objs.size (.lst [])) s3 := by
    rw [← hs3]
    exact I1.laid (t' := s2.toks) (fun b u e => Heap.get?_push_of_some _ e) (Nat.le_refl _) ⟨Nat.zero_le _, [], 0, .nil, Heap.get?_push_size _ rfl⟩
  have k3 : ∀ b o, s2.heap.get? b = some o → s3.heap.get? b = some o := fun b o e => by rw [← hs3]; exact Heap.get?_push_of_some _ e
  have sz3 : s3.heap.objs.size = s2.heap.objs.size + 1 := by rw [← hs3]; exact Heap.size_push ..
  have hfl : ∀ b ∈ fp, b < s2.heap.objs.size := fun b hb => let ⟨o, eo, _⟩ := T.obj _ _ t1 b hb; Heap.lt_size eo
  have f3 : ∀ b ∈ fp, FpOk X pins (upd H1 s2.heap.objs.size (.lst [])) b := fun b hb => ⟨by rw [upd_ne (Nat.ne_of_lt (hfl b hb))]; exact (f1 b hb).1, (f1 b hb).2⟩
  refine wpAny_newFunctionEnv ok.nocell (by intro y hy; simp at hy) (fun h4 hns hsb => ?_) ok.kind
  have k4 : ∀ b o, s3.heap.get? b = some o → h4.get? b = some o := fun b o e => hsb.extBut b o (Nat.ne_of_lt (Heap.lt_size e)) (Heap.get?_push_of_some _ e)
  have hns' : h4.Ns s3.heap.objs.size fun _ => none := by simpa using hns
  have I4 := comp_enter (tk := s3.toks + ([] : List (Str × Value)).length) ok I3 f3 (fun b hb => by rw [sz3]; exact Nat.lt_succ_of_lt (hfl b hb)) hns' k4
  obtain ⟨hg, hi, he⟩ := hin s3.heap.objs.size s3 (upd H1 s2.heap.objs.size (.lst [])) fp pins
  have t4 : tn 0 h4 := T.keep _ _ _ t1 fun b hb o e => k4 b o (k3 b o e)
  have fx : ∀ b ∈ fp, FpOk (compCx X N scope s3.heap.objs.size s3 (upd H1 s2.heap.objs.size (.lst [])) fp pins) [] (upd H1 s2.heap.objs.size (.lst [])) b := fun b hb => by
    refine ⟨(f3 b hb).1, ?_, ?_, .inl hb, ?_, ?_⟩
    · exact Nat.ne_of_lt (by rw [sz3]; exact Nat.lt_succ_of_lt (hfl b hb))
    · exact I4.ok.exfs b hb
    · exact (I4.ok.exf b hb).2
    · intro p hp
      have hp' : p ∈ X.pn ++ pins := by
        have q : p ∈ (X.pn ++ pins) ++ [] := hp
        simpa using q
      exact (f1 b hb).2.2.2.2.2 p hp'
  have loop : codeAny (model X.prog X.w) X.A (.compLoop (.ListComp elt [⟨tg, iter, ifs, 0⟩] scope pos) 0 (.ref it) (.ref s2.heap.objs.size) (compEnvC scope (clOf scope X.env) s3.heap.objs.size X.env))
      (compPost (model X.prog X.w) X.A X.xe use Q (.ref s2.heap.objs.size) s3.heap.objs.size) { s3 with heap := h4, toks := s3.toks + ([] : List (Str × Value)).length } := by
    refine comp_loop (X' := compCx X N scope s3.heap.objs.size s3 (upd H1 s2.heap.objs.size (.lst [])) fp pins) (all := all) (g' := g') rfl hc T fx J1 hDn (szOk.le hz) hg hi he ?_ _ _ _ ι1 (subS fr σd) g1 I4 t4 (fun b hb => (f3 b hb).1) ((Ext.refl (H := H1) (ι := ι1)).growN hDn) (G1.hide hDn) ?_ upd_same h2
    · intro s' σ' H' ιo vs I' fr' E' G' hD' r'
      have I5 : Inv X pins σ H' s' := I3.call' (ch := fp) I'.os I'.base I'.hok I'.bare fun b hb => ⟨(f3 b hb).2.2.2.1, (f3 b hb).2.1, (f3 b hb).2.2.2.2.1, (f3 b hb).2.2.2.2.2⟩
      obtain ⟨m, hm, _⟩ := I'.loc
      refine fin s' H' ιo vs _ _ I5 ?_ ⟨m, hm⟩ (e1.trans E') G' hD' r' ?_ ?_
      · have z := I3.fpOk (H' := H') (b := s3.heap.objs.size) (Nat.le_refl _) I'.free
        exact z
      · rw [E'.hid]; exact G1.freshH hDn
      · cases q : H s2.heap.objs.size with
        | none => rfl
        | some o => exact absurd hDn (e1.there _ (by rw [q]; simp))
    · have S1 : RelS X.K H1 ι1 (subS fr σd) (subS fr σ) := (S0.ext e1).sub fr
      exact ⟨S1.1, fun j d q => let ⟨v, a, b⟩ := S1.2 j d q; ⟨v, a, Rel.hide hDn d b⟩⟩
  exact codeAny_compStart_list loop (T.self _ 0 _ _ _ t4 loop)
theorem comp_val {H ι H' ιo K g' all vs Dl d gg Q} (e : Ext H ι H' ιo) (G' : RelG K H' (Ix.hide ιo Dl) g') (hD : H' Dl = some (.lst vs)) (r : RelL K H' (Ix.hide ιo Dl) all vs) (hn : Dl ∉ ιo.hd) (hm : cLst all g' = some (d, gg)) (p : Post K H ι d gg Q) : Q (.ref Dl) H' := by
  cases hm
  refine p H' ιo _ e G'.show ?_
  simp only [Rel]
  exact ⟨Dl, vs, rfl, .inl ⟨.inl hD, (G'.hid Dl List.mem_cons_self).1, hn⟩, RelL.show _ r⟩
end
end L3
namespace L3
open PySem PySem.Spec PyProof.Rows L2
section
variable {X : Cx} {tg iter elt : Expr} {ifs : List Expr} {scope : Scope} {pos cpos : Pos} {N : List Str} {fr : List (Option Nat)} {fi : FI} {t : FG} {c : FT} {e : FE}
theorem de_comp (hxe : X.xe = fun _ _ => False) (hc : X.calm = true) (ok : CompOk X N fr scope) (hit : DI X tg iter fi) (hin : ∀ C s3 H fp pins, DG (compCx X N scope C s3 H fp pins) tg t ∧ DIfs (compCx X N scope C s3 H fp pins) ifs c ∧ DE (compCx X N scope C s3 H fp pins) elt e)
    (hs : ∀ x, foldedSetIterable iter X.env x = pure x := by intro _; rfl) : DE X (.ListComp elt [⟨tg, iter, ifs, 0⟩] scope pos) (fComp cLst fi fr t c e) := .of (by
  intro pins s σ H Q I h
  obtain ⟨ι, σd, g, d, gg, G0, S0, h, p⟩ := h
  obtain ⟨⟨ds, g1⟩, h1, h⟩ := bind_some h
  dsimp only at h
  split at h
  · rename_i hz
    obtain ⟨⟨all, g'⟩, h2, h⟩ := bind_some h
    rw [eval_ListComp]
    refine comp_core (use := none) hxe hc ok hit hin hs I G0 S0 h1 hz h2 fun s' H' ιo vs Dl C I' fC ⟨m, hm⟩ e' G' hD r hn hf0 => ?_
    refine ⟨m, hm, fun h'' sb => ⟨.ref Dl, H', ?_, rfl, comp_val e' G' hD r hn h p⟩⟩
    obtain ⟨f0, f1, f2, f3, f4, f5⟩ := fC
    exact I'.turned (t' := s'.toks) (fun b o hb e => sb.extBut b o hb e) f0 f1 f3 f4 f5
  · cases h)
theorem setcomp_core {mk : List D → G → Option (D × G)} {i : Nat} {x : Str} {px spos : Pos} (hmk : ∀ {H ι H' ιo g' all vs Dl d gg Q}, Ext H ι H' ιo → H Dl = none → RelG X.K H' (Ix.hide ιo Dl) g' → H' Dl = some (.lst vs) → RelL X.K H' (Ix.hide ιo Dl) all vs → Dl ∉ ιo.hd → mk all g' = some (d, gg) → Post X.K H ι d gg Q → Q (.ref Dl) H')
    (hxe : X.xe = fun _ _ => False) (hc : X.calm = true) (ok : CompOk X N fr scope) (hit : DI X tg iter fi) (hin : ∀ C s3 H fp pins, DG (compCx X N scope C s3 H fp pins) tg t ∧ DIfs (compCx X N scope C s3 H fp pins) ifs c ∧ DE (compCx X N scope C s3 H fp pins) elt e)
    (hN : X.N.Nodup) (hi : X.N[i]? = some x) (hx : Loc X.env.scope x)
    (hsw : swapsWith (.ListComp elt [⟨tg, iter, ifs, 0⟩] scope pos) (some (.Name x px)) spos.line X.env = pure true)
    (hs : ∀ x, foldedSetIterable iter X.env x = pure x) (hf : X.fn x = true ∨ X.env.scope.names.lookup x = some .local) : DS X (.Assign [.Name x px] (.ListComp elt [⟨tg, iter, ifs, 0⟩] scope pos) spos) (fAsg (fComp mk fi fr t c e) (gN i)) := .of (by
  intro pins s σ H Dn I h
  obtain ⟨ι, σd, g, r, σd', gg, G0, S0, h0, p⟩ := h
  obtain ⟨⟨d, gg'⟩, h1', hr⟩ := bind_some h0
  have hr' : some (F.nx, σd.set i (some d), gg') = some (r, σd', gg) := hr
  clear h0
  obtain ⟨⟨ds, g1⟩, h1, h3⟩ := bind_some (x := fi σd g) h1'
  dsimp only at h3
  split at h3
  · rename_i hz
    obtain ⟨⟨all, g'⟩, h2, h4⟩ := bind_some h3
    rw [exec_Assign_Name_used _ _ _ _ hsw]
    refine wpAny_bind (wpAny_standAt (wpAny_bind ?_))
    show wpAny _ X.A (do let _ ← comprehension (.ListComp elt [⟨tg, iter, ifs, 0⟩] scope pos) scope X.env _ (newList []) false (eval iter X.env) (some (assign (.Name x px) X.env))) _ _ s
    refine wpAny_bind (wpAny_mono (comp_core (use := some (assign (.Name x px) X.env)) (Q := fun _ s' => SP X pins Dn .next s') hxe hc ok hit hin hs I G0 S0 h1 hz h2 fun s' H' ιo vs Dl C I' fC ⟨m, hm⟩ e' G' hD r hn hf0 => ?_) (fun _ s' hq => wpAny_pure (wpAny_pure hq)) fun _ _ e => e)
    show wpAny _ X.A (assign (.Name x px) X.env (.ref Dl)) _ _ _
    refine wpAny_assign_Name (store_ok2 I' hN hi hx (v := .ref Dl) rfl (fun s'' I'' ⟨a, sb, ha⟩ => ?_) hf)
    obtain ⟨f0, f1, f2, f3, f4, f5⟩ := fC
    have hac : C ≠ a := by
      rcases ha with rfl | ha
      · exact f1
      · exact fun z => f4 _ _ ha z.symm
    obtain ⟨oc, es, ep, ho, rest⟩ := hm
    refine ⟨m, ⟨oc, es, ep, (sb.2 C hac).trans ho, rest⟩, fun h'' sb2 => ?_⟩
    refine ⟨σ.set i (some (.ref Dl)), H', I''.turned (t' := s''.toks) (fun b o hb e => sb2.extBut b o hb e) f0 f1 f3 f4 f5, ?_⟩
    cases hr'
    exact hmk (Q := fun v H' => Dn.nx (σ.set i (some v)) H') e' hf0 G' hD r hn h4 fun H2 ι2 v e2 G2 r2 => p H2 ι2 e2 G2 _ ((S0.ext e2).set r2 i)
  · cases h3)
theorem ds_setcomp {i : Nat} {x : Str} {px spos : Pos} (hxe : X.xe = fun _ _ => False) (hc : X.calm = true) (ok : CompOk X N fr scope) (hit : DI X tg iter fi) (hin : ∀ C s3 H fp pins, DG (compCx X N scope C s3 H fp pins) tg t ∧ DIfs (compCx X N scope C s3 H fp pins) ifs c ∧ DE (compCx X N scope C s3 H fp pins) elt e)
    (hN : X.N.Nodup) (hi : X.N[i]? = some x) (hx : Loc X.env.scope x) (hsw : swapsWith (.ListComp elt [⟨tg, iter, ifs, 0⟩] scope pos) (some (.Name x px)) spos.line X.env = pure true := by rfl)
    (hs : ∀ x, foldedSetIterable iter X.env x = pure x := by intro _; rfl) (hf : X.fn x = true ∨ X.env.scope.names.lookup x = some .local := by first | exact .inl rfl | exact .inr rfl | assumption) :
    DS X (.Assign [.Name x px] (.ListComp elt [⟨tg, iter, ifs, 0⟩] scope pos) spos) (fAsg (fComp cLst fi fr t c e) (gN i)) :=
  (setcomp_core (fun e' _ G' hD r hn h4 p => comp_val e' G' hD r hn h4 p) hxe hc ok hit hin hN hi hx hsw hs hf)
end
end L3
namespace L3
open PySem PySem.Spec PyProof.Rows L2
noncomputable def iOp (c : Int → Int → Bool) (f : Int → Int → Int) (d1 d2 : D) (g : G) : Option (D × G) := match d1, d2 with
  | .int i, .int j => if c i j = true then some (.int (f i j), g) else none
  | _, _ => none
noncomputable def iCm (f : Int → Int → Bool) (d1 d2 : D) (g : G) : Option (D × G) := match d1, d2 with
  | .int i, .int j => some (.bl (f i j), g)
  | _, _ => none
noncomputable def okAny (_ _ : Int) : Bool := true
noncomputable def okMul (i j : Int) : Bool := Nat.ble i.natAbs 18446744073709551615 || Nat.ble j.natAbs 18446744073709551615
noncomputable def okDiv (_ j : Int) : Bool := Nat.ble 1 j.toNat && Nat.ble j.toNat 1073741823
noncomputable def okMod (_ j : Int) : Bool := Nat.ble 1 j.toNat
noncomputable def okPow (i j : Int) : Bool := (match j with | .ofNat n => Nat.ble n 1000000 | .negSucc _ => false) && Nat.ble i.natAbs 18446744073709551615
section
variable {X : Cx}
theorem od_int {f : Value → Value → Sem Value} {C : Int → Int → Prop} {c : Int → Int → Bool} {fi : Int → Int → Int} (h : OpR X f (rI C fun i j => .int (fi i j))) (hc : ∀ i j, c i j = true → C i j) : OpR X f (rD2 X.K (iOp c fi)) := by
  intro pins s σ H x y v u Q I rx ry q
  obtain ⟨ι, g, d1, d2, d, g', G0, r1, r2, q, p⟩ := q
  cases d1 with
  | int i =>
    cases d2 with
    | int j =>
      simp only [Rel] at r1 r2; subst r1; subst r2
      simp only [iOp] at q
      split at q
      · rename_i z
        cases q
        exact h pins s σ H _ _ v u Q I rx ry ⟨i, j, rfl, rfl, hc i j z, p H ι _ Ext.refl G0 (by simp [Rel])⟩
      · cases q
    | _ => cases q
  | _ => cases q
theorem rI0_any {g : Int → Int → V} {x y : V} {H : Hp} {Q : VK} (h : rI (fun _ _ => True) g x y H Q) : rI0 g x y H Q := let ⟨i, j, a, b, _, q⟩ := h; ⟨i, j, a, b, q⟩
theorem OpR.imp {f : Value → Value → Sem Value} {r r' : R2} (h : OpR X f r) (i : ∀ x y H Q, r' x y H Q → r x y H Q) : OpR X f r' := fun pins s σ H x y v u Q I rx ry q => h pins s σ H x y v u Q I rx ry (i _ _ _ _ q)
theorem od_sub : OpR X (binaryOp .Sub) (rD2 X.K (iOp okAny (· - ·))) := od_int (OpR.imp op_sub fun _ _ _ _ => rI0_any) fun _ _ _ => trivial
theorem od_addI : OpR X (binaryOp .Add) (rD2 X.K (iOp okAny (· + ·))) := od_int (OpR.imp op_add fun _ _ _ _ => rI0_any) fun _ _ _ => trivial
theorem od_mulI : OpR X (binaryOp .Mult) (rD2 X.K (iOp okMul (· * ·))) := od_int op_mul fun i j h => by
  unfold okMul at h
  simp only [Bool.or_eq_true] at h
  rcases h with h | h
  · have := Nat.le_of_ble_eq_true h
    exact .inl ⟨by omega, by omega⟩
  · have := Nat.le_of_ble_eq_true h
    exact .inr ⟨by omega, by omega⟩
theorem od_fdiv : OpR X (binaryOp .FloorDiv) (rD2 X.K (iOp okDiv (· / ·))) := od_int op_fdiv fun i j h => by
  unfold okDiv at h
  simp only [Bool.and_eq_true] at h
  have h1 := Nat.le_of_ble_eq_true h.1
  have h2 := Nat.le_of_ble_eq_true h.2
  exact ⟨by omega, by omega⟩
theorem od_mod : OpR X (binaryOp .Mod) (rD2 X.K (iOp okMod (· % ·))) := od_int op_mod fun i j h => by
  have h1 := Nat.le_of_ble_eq_true (show Nat.ble 1 j.toNat = true from h)
  show 0 < j
  omega
theorem od_pow : OpR X (binaryOp .Pow) (rD2 X.K (iOp okPow (fun i j => i ^ j.toNat))) := od_int op_pow fun i j h => by
  unfold okPow at h
  simp only [Bool.and_eq_true] at h
  have h2 := Nat.le_of_ble_eq_true h.2
  cases j with
  | ofNat n =>
    have h1 := Nat.le_of_ble_eq_true (show Nat.ble n 1000000 = true from h.1)
    exact ⟨Int.natCast_nonneg n, (by show ((n : Nat) : Int) ≤ 1000000; omega), (by omega)⟩
  | negSucc n => exact absurd h.1 (by simp)
theorem od_cm {f : Value → Value → Sem Value} {fi : Int → Int → Bool} (h : OpR X f (rI0 fun i j => .bl (fi i j))) : OpR X f (rD2 X.K (iCm fi)) := by
  intro pins s σ H x y v u Q I rx ry q
  obtain ⟨ι, g, d1, d2, d, g', G0, r1, r2, q, p⟩ := q
  cases d1 with
  | int i =>
    cases d2 with
    | int j =>
      simp only [Rel] at r1 r2; subst r1; subst r2
      cases q
      exact h pins s σ H _ _ v u Q I rx ry ⟨i, j, rfl, rfl, p H ι _ Ext.refl G0 (by simp [Rel])⟩
    | _ => cases q
  | _ => cases q
theorem od_lt : OpR X (compareOp .Lt) (rD2 X.K (iCm fun i j => decide (i < j))) := od_cm op_lt
theorem od_le : OpR X (compareOp .LtE) (rD2 X.K (iCm fun i j => decide (i ≤ j))) := od_cm op_le
theorem od_gt : OpR X (compareOp .Gt) (rD2 X.K (iCm fun i j => decide (j < i))) := od_cm op_gt
theorem od_ge : OpR X (compareOp .GtE) (rD2 X.K (iCm fun i j => decide (j ≤ i))) := od_cm op_ge
noncomputable def uNeg (d : D) (g : G) : Option (D × G) := match d with | .int i => some (.int (-i), g) | _ => none
theorem ud_neg : UnR X (unaryOp .USub) (rD1 X.K uNeg) := by
  intro pins s σ H x v Q I rx q
  obtain ⟨ι, g, d1, d, g', G0, r1, q, p⟩ := q
  cases d1 with
  | int i =>
    simp only [Rel] at r1; subst r1
    cases q
    exact un_neg pins s σ H _ v Q I rx ⟨i, rfl, p H ι _ Ext.refl G0 (by simp [Rel])⟩
  | _ => cases q
mutual
noncomputable def flat : D → Bool
  | .ref _ => false
  | .edc => false
  | .tup xs => flats xs
  | .lst xs => flats xs
  | _ => true
noncomputable def flats : List D → Bool
  | [] => true
  | d :: ds => flat d && flats ds
end
mutual
noncomputable def eqD : D → D → Bool
  | .non, .non => true
  | .bl a, .bl b => a == b
  | .bl a, .int b => (if a then 1 else 0) == b
  | .int a, .bl b => a == (if b then 1 else 0)
  | .int a, .int b => a == b
  | .str a, .str b => a == b
  | .tup xs, .tup ys => eqDs xs ys
  | .lst xs, .lst ys => eqDs xs ys
  | _, _ => false
noncomputable def eqDs : List D → List D → Bool
  | [], [] => true
  | x :: xs, y :: ys => eqD x y && eqDs xs ys
  | _, _ => false
end
mutual
noncomputable def dep : D → Nat
  | .tup xs => deps xs + 1
  | .lst xs => deps xs + 1
  | _ => 0
noncomputable def deps : List D → Nat
  | [] => 0
  | d :: ds => max (dep d) (deps ds)
end
mutual
theorem eqD_refl : ∀ d : D, flat d = true → eqD d d = true
  | .non, _ => by simp [eqD]
  | .bl _, _ => by simp [eqD]
  | .int _, _ => by simp [eqD]
  | .str _, _ => by simp [eqD]
  | .tup xs, h => by simp only [eqD]; exact eqDs_refl xs h
  | .lst xs, h => by simp only [eqD]; exact eqDs_refl xs h
theorem eqDs_refl : ∀ ds : List D, flats ds = true → eqDs ds ds = true
  | [], _ => by simp [eqDs]
  | d :: ds, h => by
    simp only [flats, Bool.and_eq_true] at h
    simp only [eqDs, Bool.and_eq_true]
    exact ⟨eqD_refl d h.1, eqDs_refl ds h.2⟩
end
theorem eqDs_all : ∀ xs ys : List D, eqDs xs ys = ((List.range (min xs.length ys.length)).all (fun j => eqD (xs[j]?.getD .non) (ys[j]?.getD .non)) && xs.length == ys.length)
  | [], [] => by simp [eqDs]
  | [], y :: ys => by simp [eqDs]
  | x :: xs, [] => by simp [eqDs]
  | x :: xs, y :: ys => by
    simp only [eqDs, eqDs_all xs ys, List.length_cons, Nat.succ_min_succ, List.range_succ_eq_map, List.all_cons, List.getElem?_cons_zero, Option.getD_some, List.all_map, Function.comp_def, List.getElem?_cons_succ]
    rw [Bool.and_assoc]
    congr 2
    simp
theorem tup_lst {pins : List (Addr × Obj)} {σ : L2.St} {H : Hp} {s : Shared} {a : Addr} {xs ys : List V} (I : Inv X pins σ H s) (h : SqT X.K H a xs) (h' : SqL X.K H a ys) : False := by
  obtain ⟨its, _, ht, _⟩ := I.tuple h
  obtain ⟨its', _, hl, _⟩ := I.list h'
  exact SeqAt.ne_of_list_tuple hl.isList ht rfl
mutual
theorem Rel.inj {pins : List (Addr × Obj)} {σ : L2.St} {H : Hp} {s : Shared} {ι : Ix} (I : Inv X pins σ H s) : ∀ (d1 d2 : D) {v : V}, flat d1 = true → flat d2 = true → Rel X.K H ι d1 v → Rel X.K H ι d2 v → d1 = d2
  | .non, d2, v, _, f2, r1, r2 => by
    simp only [Rel] at r1; subst r1
    cases d2 <;> simp_all [Rel, flat]
  | .bl _, d2, v, _, f2, r1, r2 => by
    simp only [Rel] at r1; subst r1
    cases d2 <;> simp_all [Rel, flat]
  | .int _, d2, v, _, f2, r1, r2 => by
    simp only [Rel] at r1; subst r1
    cases d2 <;> simp_all [Rel, flat]
  | .str _, d2, v, _, f2, r1, r2 => by
    simp only [Rel] at r1; subst r1
    cases d2 <;> simp_all [Rel, flat]
  | .tup xs, d2, v, f1, f2, r1, r2 => by
    simp only [Rel] at r1
    obtain ⟨a, vs, rfl, hq, hr⟩ := r1
    cases d2 with
    | tup ys =>
      simp only [Rel] at r2
      obtain ⟨a', ws, e, hq', hr'⟩ := r2
      cases e
      have := I.tuple_inj hq.sq hq'.sq
      subst this
      rw [RelL.inj I xs ys f1 f2 hr hr']
    | lst ys =>
      simp only [Rel] at r2
      obtain ⟨a', ws, e, hq', hr'⟩ := r2
      cases e
      exact (tup_lst I hq.sq hq'.sq).elim
    | edc => cases f2
    | ref n => cases f2
    | _ => simp [Rel] at r2
  | .lst xs, d2, v, f1, f2, r1, r2 => by
    simp only [Rel] at r1
    obtain ⟨a, vs, rfl, hq, hr⟩ := r1
    cases d2 with
    | lst ys =>
      simp only [Rel] at r2
      obtain ⟨a', ws, e, hq', hr'⟩ := r2
      cases e
      have := I.list_inj hq.sq hq'.sq
      subst this
      rw [RelL.inj I xs ys f1 f2 hr hr']
    | tup ys =>
      simp only [Rel] at r2
      obtain ⟨a', ws, e, hq', hr'⟩ := r2
      cases e
      exact (tup_lst I hq'.sq hq.sq).elim
    | edc => cases f2
    | ref n => cases f2
    | _ => simp [Rel] at r2
  | .edc, d2, v, f1, _, _, _ => by cases f1
  | .ref _, d2, v, f1, _, _, _ => by cases f1
theorem RelL.inj {pins : List (Addr × Obj)} {σ : L2.St} {H : Hp} {s : Shared} {ι : Ix} (I : Inv X pins σ H s) : ∀ (ds es : List D) {vs : List V}, flats ds = true → flats es = true → RelL X.K H ι ds vs → RelL X.K H ι es vs → ds = es
  | [], es, vs, _, _, r1, r2 => by
    simp only [RelL] at r1; subst r1
    cases es with
    | nil => rfl
    | cons e es => simp [RelL] at r2
  | d :: ds, es, vs, f1, f2, r1, r2 => by
    simp only [RelL] at r1
    obtain ⟨v, vr, rfl, hv, hr⟩ := r1
    cases es with
    | nil => simp [RelL] at r2
    | cons e es =>
      simp only [RelL] at r2
      obtain ⟨v', vr', e1, hv', hr'⟩ := r2
      cases e1
      simp only [flats, Bool.and_eq_true] at f1 f2
      rw [Rel.inj I d e f1.1 f2.1 hv hv', RelL.inj I ds es f1.2 f2.2 hr hr']
end
theorem Rel.nofloat {K H ι d v b t} (r : Rel K H ι d v) (rv : RelV v (.float b t)) : False := by
  cases d with
  | non => simp only [Rel] at r; subst r; cases rv
  | bl _ => simp only [Rel] at r; subst r; cases rv
  | int _ => simp only [Rel] at r; subst r; obtain ⟨t, e⟩ := rv; cases e
  | str _ => simp only [Rel] at r; subst r; obtain ⟨t, e⟩ := rv; cases e
  | tup _ => simp only [Rel] at r; obtain ⟨a, vs, rfl, _⟩ := r; cases rv
  | lst _ => simp only [Rel] at r; obtain ⟨a, vs, rfl, _⟩ := r; cases rv
  | edc => simp only [Rel] at r; obtain ⟨a, rfl, _⟩ := r; cases rv
  | ref _ => simp only [Rel] at r; obtain ⟨a, rfl, _⟩ := r; cases rv
theorem in1_units (A : Around) : A.in1.units = A.units + 1 := rfl
section
open SeqAt
variable {pins : List (Addr × Obj)} {σ : L2.St} {H : Hp} {s : Shared} {ι : Ix}
theorem eqAt_of_rc {A : Around} {s : Shared} {u v : Value} {k : Bool} (h : RcAt A s u v k) (hs : u = v → k = true) (hnf : ∀ b t, u ≠ .float b t) : EqAt A s u v k := fun prog w E Q hq => by
  unfold eqBool
  refine wpAny_holding ?_
  refine wpAny_ite_split (fun hab => ?_) (fun _ => ?_)
  · rw [hs (eq_of_beq hab)] at hq
    exact wpAny_bind (wpAny_rule (wpAny_pure hq))
  · cases u with
    | float b t => exact absurd rfl (hnf b t)
    | _ => exact wpAny_bind (h prog w E _ (wpAny_truthy_bool hq))
mutual
theorem rcAt_D (I : Inv X pins σ H s) : ∀ (d1 d2 : D) {A : Around} {x y : V} {u v : Value}, flat d1 = true → flat d2 = true → Rel X.K H ι d1 x → Rel X.K H ι d2 y → RelV x u → RelV y v → A.units + dep d1 < cLine → RcAt A s u v (eqD d1 d2)
  | .non, d2, A, x, y, u, v, _, f2, r1, r2, ru, rv, hu => by
    simp only [Rel] at r1; subst r1; cases ru
    cases d2 with
    | non => simp only [Rel] at r2; subst r2; cases rv; simp only [eqD]; exact .none_none
    | bl b => simp only [Rel] at r2; subst r2; cases rv; simp only [eqD]; exact .none_bool b
    | int b => simp only [Rel] at r2; subst r2; obtain ⟨t, rfl⟩ := rv; simp only [eqD]; exact .none_int b t
    | str b => simp only [Rel] at r2; subst r2; obtain ⟨t, rfl⟩ := rv; simp only [eqD]; exact .none_str b t
    | tup ys => simp only [Rel] at r2; obtain ⟨a', ws, rfl, hq, hr⟩ := r2; cases rv; obtain ⟨its, _, ht, _⟩ := I.tuple hq.sq; simp only [eqD]; exact .none_tuple ht (by omega)
    | lst ys => simp only [Rel] at r2; obtain ⟨a', ws, rfl, hq, hr⟩ := r2; cases rv; obtain ⟨its, _, ht, _⟩ := I.list hq.sq; simp only [eqD]; exact .none_list ht.isList (by omega)
    | _ => cases f2
  | .bl a, d2, A, x, y, u, v, _, f2, r1, r2, ru, rv, hu => by
    simp only [Rel] at r1; subst r1; cases ru
    cases d2 with
    | non => simp only [Rel] at r2; subst r2; cases rv; simp only [eqD]; exact .bool_none a
    | bl b => simp only [Rel] at r2; subst r2; cases rv; simp only [eqD]; exact .bool_bool a b
    | int b => simp only [Rel] at r2; subst r2; obtain ⟨t, rfl⟩ := rv; simp only [eqD]; exact .bool_int a b t
    | str b => simp only [Rel] at r2; subst r2; obtain ⟨t, rfl⟩ := rv; simp only [eqD]; exact .bool_str a b t
    | tup ys => simp only [Rel] at r2; obtain ⟨a', ws, rfl, hq, hr⟩ := r2; cases rv; obtain ⟨its, _, ht, _⟩ := I.tuple hq.sq; simp only [eqD]; exact .bool_tuple a ht (by omega)
    | lst ys => simp only [Rel] at r2; obtain ⟨a', ws, rfl, hq, hr⟩ := r2; cases rv; obtain ⟨its, _, ht, _⟩ := I.list hq.sq; simp only [eqD]; exact .bool_list a ht.isList (by omega)
    | _ => cases f2
  | .int a, d2, A, x, y, u, v, _, f2, r1, r2, ru, rv, hu => by
    simp only [Rel] at r1; subst r1; obtain ⟨t0, rfl⟩ := ru
    cases d2 with
    | non => simp only [Rel] at r2; subst r2; cases rv; simp only [eqD]; exact .int_none a t0
    | bl b => simp only [Rel] at r2; subst r2; cases rv; simp only [eqD]; exact .int_bool a t0 b
    | int b => simp only [Rel] at r2; subst r2; obtain ⟨t, rfl⟩ := rv; simp only [eqD]; exact .int_int a t0 b t
    | str b => simp only [Rel] at r2; subst r2; obtain ⟨t, rfl⟩ := rv; simp only [eqD]; exact .int_str a t0 b t
    | tup ys => simp only [Rel] at r2; obtain ⟨a', ws, rfl, hq, hr⟩ := r2; cases rv; obtain ⟨its, _, ht, _⟩ := I.tuple hq.sq; simp only [eqD]; exact .int_tuple a t0 ht (by omega)
    | lst ys => simp only [Rel] at r2; obtain ⟨a', ws, rfl, hq, hr⟩ := r2; cases rv; obtain ⟨its, _, ht, _⟩ := I.list hq.sq; simp only [eqD]; exact .int_list a t0 ht.isList (by omega)
    | _ => cases f2
  | .str a, d2, A, x, y, u, v, _, f2, r1, r2, ru, rv, hu => by
    simp only [Rel] at r1; subst r1; obtain ⟨t0, rfl⟩ := ru
    cases d2 with
    | non => simp only [Rel] at r2; subst r2; cases rv; simp only [eqD]; exact .str_none a t0
    | bl b => simp only [Rel] at r2; subst r2; cases rv; simp only [eqD]; exact .str_bool a t0 b
    | int b => simp only [Rel] at r2; subst r2; obtain ⟨t, rfl⟩ := rv; simp only [eqD]; exact .str_int a t0 b t
    | str b => simp only [Rel] at r2; subst r2; obtain ⟨t, rfl⟩ := rv; simp only [eqD]; exact .str_str a t0 b t
    | tup ys => simp only [Rel] at r2; obtain ⟨a', ws, rfl, hq, hr⟩ := r2; cases rv; obtain ⟨its, _, ht, _⟩ := I.tuple hq.sq; simp only [eqD]; exact .str_tuple a t0 ht (by omega)
    | lst ys => simp only [Rel] at r2; obtain ⟨a', ws, rfl, hq, hr⟩ := r2; cases rv; obtain ⟨its, _, ht, _⟩ := I.list hq.sq; simp only [eqD]; exact .str_list a t0 ht.isList (by omega)
    | _ => cases f2
  | .tup xs, d2, A, x, y, u, v, f1, f2, r1, r2, ru, rv, hu => by
    simp only [Rel] at r1; obtain ⟨a, vs, rfl, hq, hr⟩ := r1; cases ru
    obtain ⟨its, rits, ht, _⟩ := I.tuple hq.sq
    simp only [dep] at hu
    cases d2 with
    | non => simp only [Rel] at r2; subst r2; cases rv; simp only [eqD]; exact .tuple_none ht (by omega)
    | bl b => simp only [Rel] at r2; subst r2; cases rv; simp only [eqD]; exact .tuple_bool b ht (by omega)
    | int b => simp only [Rel] at r2; subst r2; obtain ⟨t, rfl⟩ := rv; simp only [eqD]; exact .tuple_int b t ht (by omega)
    | str b => simp only [Rel] at r2; subst r2; obtain ⟨t, rfl⟩ := rv; simp only [eqD]; exact .tuple_str b t ht (by omega)
    | tup ys =>
      simp only [Rel] at r2; obtain ⟨a', ws, rfl, hq', hr'⟩ := r2; cases rv
      obtain ⟨its', rits', ht', _⟩ := I.tuple hq'.sq
      simp only [eqD, eqDs_all]
      have l1 : xs.length = its.toArray.size := by rw [List.size_toArray, ← rits.length]; exact hr.length
      have l2 : ys.length = its'.toArray.size := by rw [List.size_toArray, ← rits'.length]; exact hr'.length
      rw [l1, l2]
      refine .tuples ht ht' (by omega) fun j h1 h2 => ?_
      have := eqAts_D I xs ys (A := A.in1) f1 f2 hr hr' rits rits' (by rw [in1_units]; omega) j (by simpa using h1) (by simpa using h2)
      simpa using this
    | lst ys =>
      simp only [Rel] at r2; obtain ⟨a', ws, rfl, hq', hr'⟩ := r2; cases rv
      obtain ⟨its', rits', ht', _⟩ := I.list hq'.sq
      simp only [eqD]; exact .tuple_list ht ht'.isList (by omega)
    | _ => cases f2
  | .lst xs, d2, A, x, y, u, v, f1, f2, r1, r2, ru, rv, hu => by
    simp only [Rel] at r1; obtain ⟨a, vs, rfl, hq, hr⟩ := r1; cases ru
    obtain ⟨its, rits, ht, _⟩ := I.list hq.sq
    simp only [dep] at hu
    cases d2 with
    | non => simp only [Rel] at r2; subst r2; cases rv; simp only [eqD]; exact .list_none ht.isList (by omega)
    | bl b => simp only [Rel] at r2; subst r2; cases rv; simp only [eqD]; exact .list_bool b ht.isList (by omega)
    | int b => simp only [Rel] at r2; subst r2; obtain ⟨t, rfl⟩ := rv; simp only [eqD]; exact .list_int b t ht.isList (by omega)
    | str b => simp only [Rel] at r2; subst r2; obtain ⟨t, rfl⟩ := rv; simp only [eqD]; exact .list_str b t ht.isList (by omega)
    | lst ys =>
      simp only [Rel] at r2; obtain ⟨a', ws, rfl, hq', hr'⟩ := r2; cases rv
      obtain ⟨its', rits', ht', _⟩ := I.list hq'.sq
      simp only [eqD, eqDs_all]
      have l1 : xs.length = its.toArray.size := by rw [List.size_toArray, ← rits.length]; exact hr.length
      have l2 : ys.length = its'.toArray.size := by rw [List.size_toArray, ← rits'.length]; exact hr'.length
      rw [l1, l2]
      by_cases hs : its.toArray.size = its'.toArray.size
      · have e0 : (its.toArray.size == its'.toArray.size) = true := by simpa using hs
        rw [e0, Bool.and_true, ← hs, Nat.min_self]
        refine .lists ht.isList ht'.isList hs (by omega) fun j h1 h2 => ?_
        have := eqAts_D I xs ys (A := A.in1) f1 f2 hr hr' rits rits' (by rw [in1_units]; omega) j (by simpa using h1) (by simpa using h2)
        simpa using this
      · have e0 : (its.toArray.size == its'.toArray.size) = false := by simpa using hs
        rw [e0, Bool.and_false]
        exact .lists_lengths ht.isList ht'.isList (by simpa using hs) (by omega)
    | tup ys =>
      simp only [Rel] at r2; obtain ⟨a', ws, rfl, hq', hr'⟩ := r2; cases rv
      obtain ⟨its', rits', ht', _⟩ := I.tuple hq'.sq
      simp only [eqD]; exact .list_tuple ht.isList ht' (by omega)
    | _ => cases f2
  | .edc, d2, A, x, y, u, v, f1, _, _, _, _, _, _ => by cases f1
  | .ref _, d2, A, x, y, u, v, f1, _, _, _, _, _, _ => by cases f1
theorem eqAts_D (I : Inv X pins σ H s) : ∀ (xs ys : List D) {A : Around} {vs ws : List V} {us zs : List Value}, flats xs = true → flats ys = true → RelL X.K H ι xs vs → RelL X.K H ι ys ws → Vals vs us → Vals ws zs → A.units + deps xs < cLine →
    ∀ (j : Nat) (h1 : j < us.length) (h2 : j < zs.length), EqAt A s us[j] zs[j] (eqD (xs[j]?.getD .non) (ys[j]?.getD .non))
  | [], ys, A, vs, ws, us, zs, _, _, r1, _, ru, _, _, j, h1, _ => by
    simp only [RelL] at r1; subst r1; cases ru; simp at h1
  | d :: ds, ys, A, vs, ws, us, zs, f1, f2, r1, r2, ru, rz, hu, j, h1, h2 => by
    simp only [RelL] at r1
    obtain ⟨v, vr, rfl, hv, hr⟩ := r1
    simp only [deps] at hu
    simp only [flats, Bool.and_eq_true] at f1
    cases ru with
    | cons ru0 rur =>
      cases ys with
      | nil => simp only [RelL] at r2; subst r2; cases rz; simp at h2
      | cons e es =>
        simp only [RelL] at r2
        obtain ⟨w, wr, rfl, hw, hwr⟩ := r2
        simp only [flats, Bool.and_eq_true] at f2
        cases rz with
        | cons rz0 rzr =>
          cases j with
          | zero =>
            have rc := rcAt_D I d e (A := A) f1.1 f2.1 hv hw ru0 rz0 (by omega)
            simp only [List.getElem_cons_zero, List.getElem?_cons_zero, Option.getD_some]
            refine eqAt_of_rc rc (fun euv => ?_) (fun b t ef => Rel.nofloat hv (by rw [ef] at ru0; exact ru0))
            subst euv
            have exy := ru0.inj rz0
            subst exy
            have ede := Rel.inj I d e f1.1 f2.1 hv hw
            subst ede
            exact eqD_refl d f1.1
          | succ j =>
            have := eqAts_D I ds es (A := A) f1.2 f2.2 hr hwr rur rzr (by omega) j (by simpa using h1) (by simpa using h2)
            simpa using this
end
end
noncomputable def oEq (d1 d2 : D) (g : G) : Option (D × G) := if (flat d1 && flat d2 && decide (dep d1 ≤ 60)) = true then some (.bl (eqD d1 d2), g) else none
theorem od_eq (hu : X.A.units + 64 < cLine) : OpR X (compareOp .Eq) (rD2 X.K oEq) := by
  intro pins s σ H x y v u Q I rx ry q
  obtain ⟨ι, g, d1, d2, d, g', G0, r1, r2, q, p⟩ := q
  unfold oEq at q
  split at q
  · rename_i z
    simp only [Bool.and_eq_true, decide_eq_true_eq] at z
    cases q
    exact rcAt_D I d1 d2 z.1.1 z.1.2 r1 r2 rx ry (by omega) _ _ _ _ ⟨.bl _, H, I, rfl, p H ι _ Ext.refl G0 (by simp [Rel])⟩
  · cases q
noncomputable def isNon : D → Bool
  | .non => true
  | _ => false
noncomputable def oIsN (d1 d2 : D) (g : G) : Option (D × G) := match d2 with | .non => some (.bl (isNon d1), g) | _ => none
noncomputable def oNotN (d1 d2 : D) (g : G) : Option (D × G) := match d2 with | .non => some (.bl (!isNon d1), g) | _ => none
theorem rel_non {K H ι d v} (r : Rel K H ι d v) : decide (v = V.non) = isNon d := by
  cases d with
  | non => simp only [Rel] at r; subst r; rfl
  | bl _ => simp only [Rel] at r; subst r; rfl
  | int _ => simp only [Rel] at r; subst r; rfl
  | str _ => simp only [Rel] at r; subst r; rfl
  | tup _ => simp only [Rel] at r; obtain ⟨a, vs, rfl, _⟩ := r; rfl
  | lst _ => simp only [Rel] at r; obtain ⟨a, vs, rfl, _⟩ := r; rfl
  | edc => simp only [Rel] at r; obtain ⟨a, rfl, _⟩ := r; rfl
  | ref _ => simp only [Rel] at r; obtain ⟨a, rfl, _⟩ := r; rfl
theorem od_isN : OpR X (compareOp .Is) (rD2 X.K oIsN) := by
  intro pins s σ H x y v u Q I rx ry q
  obtain ⟨ι, g, d1, d2, d, g', G0, r1, r2, q, p⟩ := q
  cases d2 with
  | non =>
    simp only [Rel] at r2; subst r2
    simp only [oIsN] at q
    cases q
    exact op_isN pins s σ H _ _ v u Q I rx ry ⟨rfl, by rw [rel_non r1]; exact p H ι _ Ext.refl G0 (by simp [Rel])⟩
  | _ => cases q
theorem od_notN : OpR X (compareOp .IsNot) (rD2 X.K oNotN) := by
  intro pins s σ H x y v u Q I rx ry q
  obtain ⟨ι, g, d1, d2, d, g', G0, r1, r2, q, p⟩ := q
  cases d2 with
  | non =>
    simp only [Rel] at r2; subst r2
    simp only [oNotN] at q
    cases q
    refine op_notN pins s σ H _ _ v u Q I rx ry ⟨rfl, ?_⟩
    rw [rel_non r1]
    exact p H ι _ Ext.refl G0 (by simp [Rel])
  | _ => cases q
noncomputable def seqOf (d : D) (g : G) : Option (List D) := match d with
  | .tup xs => some xs
  | .lst xs => some xs
  | .ref n => g[n]?
  | _ => none
theorem seqOf_rel {K H ι g d v xs} (G0 : RelG K H ι g) (r : Rel K H ι d v) (h : seqOf d g = some xs) : ∃ a vs, v = .ref a ∧ (SqL K H a vs ∨ SqT K H a vs) ∧ RelL K H ι xs vs := by
  cases d with
  | tup ys => cases h; simp only [Rel] at r; obtain ⟨a, vs, rfl, hq, hr⟩ := r; exact ⟨a, vs, rfl, .inr hq.sq, hr⟩
  | lst ys => cases h; simp only [Rel] at r; obtain ⟨a, vs, rfl, hq, hr⟩ := r; exact ⟨a, vs, rfl, .inl hq.sq, hr⟩
  | ref n =>
    simp only [Rel] at r; obtain ⟨a, rfl, ha⟩ := r
    obtain ⟨vs, h1, h2⟩ := G0.at h ha
    exact ⟨a, vs, rfl, .inl (.of h1), h2⟩
  | _ => cases h
noncomputable def oIx (d1 d2 : D) (g : G) : Option (D × G) := match d2 with
  | .int i => (seqOf d1 g).bind fun xs => (atI xs i).map fun d => (d, g)
  | _ => none
theorem atI_rel {K H ι} {xs : List D} {vs : List V} {i : Int} {d : D} (r : RelL K H ι xs vs) (h : atI xs i = some d) : ∃ v, atI vs i = some v ∧ Rel K H ι d v := by
  unfold atI at h ⊢
  rw [← r.length]
  obtain ⟨j, h1, h2⟩ := bind_some h
  obtain ⟨v, h3, h4⟩ := r.get h2
  exact ⟨v, by rw [h1]; exact h3, h4⟩
theorem ixd_seq : IxR X (rD2 X.K oIx) := by
  intro value slice pins s σ H x y v u Q I rx ry q hs
  obtain ⟨ι, g, d1, d2, d, g', G0, r1, r2, q, p⟩ := q
  cases d2 with
  | int i =>
    simp only [Rel] at r2; subst r2
    simp only [oIx] at q
    obtain ⟨xs, h1, q⟩ := bind_some q
    cases h2 : atI xs i with
    | none => rw [h2] at q; cases q
    | some e =>
      rw [h2] at q; cases q
      obtain ⟨a, vs, rfl, hq, hr⟩ := seqOf_rel G0 r1 h1
      obtain ⟨w, h3, h4⟩ := atI_rel hr h2
      have fin := p H ι w Ext.refl G0 h4
      rcases hq with hq | hq
      · exact ix_seq value slice pins s σ H _ _ v u Q I rx ry (.inl ⟨a, vs, i, w, rfl, rfl, hq, h3, fin⟩) hs
      · exact ix_seq value slice pins s σ H _ _ v u Q I rx ry (.inr (.inl ⟨a, vs, i, w, rfl, rfl, hq, h3, fin⟩)) hs
  | _ => cases q
theorem de_ix {a b : Expr} {fa fb : FE} {pos : Pos} (ha : DE X a fa) (hb : DE X b fb) (hs : PlainIx b := by exact fun _ _ => rfl) : DE X (.Subscript a b pos) (fOp oIx fa fb) := .of (
  PE.imp (pe_ix ixd_seq ha.un hb.un hs) fun σ H Q h => tOp_of h)
noncomputable def bLen (ds : List D) (g : G) : Option (D × G) := match ds with | [d] => (seqOf d g).map fun xs => (.int xs.length, g) | _ => none
theorem cd_len : CallR X (.builtin "len") (rDL X.K bLen) := by
  intro pins s σ H xs us Q I r q
  obtain ⟨ι, g, ds, d, g', G0, r1, q, p⟩ := q
  cases ds with
  | nil => cases q
  | cons e dsr =>
  cases dsr with
  | cons _ _ => cases q
  | nil =>
    simp only [bLen] at q
    cases hx : seqOf e g with
    | none => rw [hx] at q; cases q
    | some ys =>
      rw [hx] at q; cases q
      simp only [RelL] at r1
      obtain ⟨v, _, rfl, rv, rfl⟩ := r1
      obtain ⟨a, vs, rfl, hq, hr⟩ := seqOf_rel G0 rv hx
      exact call_len_seq pins s σ H _ us Q I r ⟨a, vs, rfl, hq, by rw [← hr.length]; exact p H ι _ Ext.refl G0 (by simp [Rel])⟩
noncomputable def bMax (ds : List D) (g : G) : Option (D × G) := match ds with | [.int i, .int j] => some (.int (if j > i then j else i), g) | _ => none
noncomputable def bMin (ds : List D) (g : G) : Option (D × G) := match ds with | [.int i, .int j] => some (.int (if j < i then j else i), g) | _ => none
theorem cd_max (hc : X.calm = true) : CallR X (.builtin "max") (rDL X.K bMax) := by
  intro pins s σ H xs us Q I r q
  obtain ⟨ι, g, ds, d, g', G0, r1, q, p⟩ := q
  unfold bMax at q
  split at q
  · cases q
    simp only [RelL, Rel] at r1
    obtain ⟨_, _, rfl, rfl, _, _, rfl, rfl, rfl⟩ := r1
    exact call_max2 hc pins s σ H _ us Q I r ⟨_, _, rfl, p H ι _ Ext.refl G0 (by simp [Rel])⟩
  · cases q
theorem cd_min (hc : X.calm = true) : CallR X (.builtin "min") (rDL X.K bMin) := by
  intro pins s σ H xs us Q I r q
  obtain ⟨ι, g, ds, d, g', G0, r1, q, p⟩ := q
  unfold bMin at q
  split at q
  · cases q
    simp only [RelL, Rel] at r1
    obtain ⟨_, _, rfl, rfl, _, _, rfl, rfl, rfl⟩ := r1
    exact call_min2 hc pins s σ H _ us Q I r ⟨_, _, rfl, p H ι _ Ext.refl G0 (by simp [Rel])⟩
  · cases q
noncomputable def bAbs (ds : List D) (g : G) : Option (D × G) := match ds with | [.int i] => some (.int (if i < 0 then -i else i), g) | _ => none
theorem cd_abs : CallR X (.builtin "abs") (rDL X.K bAbs) := by
  intro pins s σ H xs us Q I r q
  obtain ⟨ι, g, ds, d, g', G0, r1, q, p⟩ := q
  unfold bAbs at q
  split at q
  · cases q
    simp only [RelL, Rel] at r1
    obtain ⟨_, _, rfl, rfl, rfl⟩ := r1
    exact call_abs pins s σ H _ us Q I r ⟨_, rfl, p H ι _ Ext.refl G0 (by simp [Rel])⟩
  · cases q
noncomputable def bInt (ds : List D) (g : G) : Option (D × G) := match ds with | [.int i] => some (.int i, g) | [.bl k] => some (.int (if k then 1 else 0), g) | _ => none
theorem cd_int : CallR X (.type "int") (rDL X.K bInt) := by
  intro pins s σ H xs us Q I r q
  obtain ⟨ι, g, ds, d, g', G0, r1, q, p⟩ := q
  unfold bInt at q
  split at q
  · cases q
    simp only [RelL, Rel] at r1
    obtain ⟨_, _, rfl, rfl, rfl⟩ := r1
    exact call_int1 pins s σ H _ us Q I r (.inl ⟨_, rfl, p H ι _ Ext.refl G0 (by simp [Rel])⟩)
  · cases q
    simp only [RelL, Rel] at r1
    obtain ⟨_, _, rfl, rfl, rfl⟩ := r1
    exact call_int1 pins s σ H _ us Q I r (.inr ⟨_, rfl, p H ι _ Ext.refl G0 (by simp [Rel])⟩)
  · cases q
noncomputable def bTup (ds : List D) (g : G) : Option (D × G) := match ds with | [d] => (seqOf d g).bind fun xs => if szOk xs.length = true then some (.tup xs, g) else none | _ => none
noncomputable def bLst (ds : List D) (g : G) : Option (D × G) := match ds with | [d] => (seqOf d g).bind fun xs => if szOk xs.length = true then some (.lst xs, g) else none | _ => none
theorem cd_tup : CallR X (.type "tuple") (rDL X.K bTup) := by
  intro pins s σ H xs us Q I r q
  obtain ⟨ι, g, ds, d, g', G0, r1, q, p⟩ := q
  cases ds with
  | nil => cases q
  | cons e dsr =>
  cases dsr with
  | cons _ _ => cases q
  | nil =>
    simp only [bTup] at q
    obtain ⟨ys, hx, q⟩ := bind_some q
    split at q
    · rename_i z
      cases q
      simp only [RelL] at r1
      obtain ⟨v, _, rfl, rv, rfl⟩ := r1
      cases e with
      | tup zs =>
        cases hx
        simp only [Rel] at rv
        obtain ⟨a, vs, rfl, hq, hr⟩ := rv
        exact call_tuple_of pins s σ H _ us Q I r ⟨a, vs, rfl, .inr ⟨hq.sq, p H ι _ Ext.refl G0 (by simp only [Rel]; exact ⟨a, vs, rfl, hq, hr⟩)⟩⟩
      | _ =>
        obtain ⟨a, vs, rfl, hq, hr⟩ := seqOf_rel G0 rv hx
        have hql : SqL X.K H a vs := by
          rcases hq with hq | hq
          · exact hq
          · exfalso
            first
              | (cases hx; done)
              | (simp only [Rel] at rv; obtain ⟨a', vs', e1, hq', _⟩ := rv; cases e1; exact tup_lst I hq hq'.sq)
              | (simp only [Rel] at rv; obtain ⟨a', e1, ha⟩ := rv; cases e1; obtain ⟨ws, h1, h2⟩ := G0.at hx ha; exact tup_lst I hq (.of h1))
        refine call_tuple_of pins s σ H _ us Q I r ⟨a, vs, rfl, .inl ⟨hql, fun l hl => p _ _ _ (Ext.lay hl) (G0.lay hl) ?_⟩⟩
        simp only [Rel]
        exact ⟨l, vs, rfl, .inl ⟨.inl upd_same, G0.fresh hl⟩, RelL.ext (Ext.lay hl) _ hr⟩
    · cases q
end
end L3
namespace L3
open PySem PySem.Spec PyProof.Rows L2
section
variable {X : Cx}
inductive Ty | int | bool | str | tuple | list | dict
noncomputable def Ty.name : Ty → String
  | .int => "int" | .bool => "bool" | .str => "str" | .tuple => "tuple" | .list => "list" | .dict => "dict"
noncomputable def isI : Ty → D → Bool
  | .int, .int _ => true | .int, .bl _ => true | .bool, .bl _ => true | .str, .str _ => true
  | .tuple, .tup _ => true | .list, .lst _ => true | .list, .ref _ => true | .dict, .edc => true
  | _, _ => false
noncomputable def fIsi (T : Ty) (f : FE) : FE := fun σ g => (f σ g).bind fun r => some (.bl (isI T r.1), r.2)
theorem isi_call {pins : List (Addr × Obj)} {s : Shared} {σ : L2.St} {H : Hp} {ι : Ix} {g : G} {d : D} {x : V} {u : Value} {Q : Value → Shared → Prop} (T : Ty) (I : Inv X pins σ H s) (G0 : RelG X.K H ι g) (r : Rel X.K H ι d x) (ru : RelV x u) (h : ∀ tk, Q (.bool (isI T d)) { s with toks := tk }) :
    wpAny (model X.prog X.w) X.A (call (.builtin "isinstance") [u, .type T.name]) Q X.xe s := by
  cases d with
  | non => simp only [Rel] at r; subst r; cases ru; exact PySem.W.kia_one PySem.W.kitx_none I.kIn True.intro (b := isI T .non) (by cases T <;> rfl) (fun z => nomatch z) h
  | bl b => simp only [Rel] at r; subst r; cases ru; exact PySem.W.kia_one PySem.W.kitx_bool I.kIn True.intro (b := isI T (.bl b)) (by cases T <;> rfl) (fun z => nomatch z) h
  | int b => simp only [Rel] at r; subst r; obtain ⟨t, rfl⟩ := ru; exact PySem.W.kia_one PySem.W.kitx_int I.kIn True.intro (b := isI T (.int b)) (by cases T <;> rfl) (fun z => nomatch z) h
  | str b => simp only [Rel] at r; subst r; obtain ⟨t, rfl⟩ := ru; exact PySem.W.kia_one PySem.W.kitx_str I.kIn True.intro (b := isI T (.str b)) (by cases T <;> rfl) (fun z => nomatch z) h
  | tup xs =>
    simp only [Rel] at r; obtain ⟨a, vs, rfl, hq, hr⟩ := r; cases ru
    obtain ⟨its, _, ⟨o, h1, h2, _⟩, _⟩ := I.tuple hq.sq
    exact PySem.W.kia_one PySem.W.kitx_tuple I.kIn ⟨o, h1, h2⟩ (b := isI T (.tup xs)) (by cases T <;> rfl) (fun z => nomatch z) h
  | lst xs =>
    simp only [Rel] at r; obtain ⟨a, vs, rfl, hq, hr⟩ := r; cases ru
    obtain ⟨its, _, ⟨o, n, h1, h2, _⟩, _⟩ := I.list hq.sq
    exact PySem.W.kia_one PySem.W.kitx_list I.kIn ⟨o, h1, h2⟩ (b := isI T (.lst xs)) (by cases T <;> rfl) (fun z => nomatch z) h
  | ref n =>
    simp only [Rel] at r; obtain ⟨a, rfl, ha⟩ := r; cases ru
    have hi : n < g.length := by rw [← G0.len]; exact (List.getElem?_eq_some_iff.mp ha).1
    obtain ⟨vs, h1, h2⟩ := G0.at (List.getElem?_eq_getElem hi) ha
    obtain ⟨its, _, ⟨o, n, h1, h2, _⟩, _⟩ := I.list (SqL.of h1)
    exact PySem.W.kia_one PySem.W.kitx_list I.kIn ⟨o, h1, h2⟩ (b := true && isI T (.lst [])) (by cases T <;> rfl) (fun z => nomatch z) (by cases T <;> exact h)
  | edc =>
    simp only [Rel] at r; obtain ⟨a, rfl, ha, _⟩ := r; cases ru
    obtain ⟨_, _, vs, _, p⟩ := (show ObjOk X.prog X.w H s.heap a (.dK []) from I.hok a _ ha)
    obtain ⟨o, es, ep, h1, h2, _⟩ := p
    exact PySem.W.kia_one PySem.W.kitx_dict I.kIn ⟨o, h1, h2.1⟩ (b := isI T .edc) (by cases T <;> rfl) (fun z => nomatch z) h
theorem de_isi {a : Expr} {fa : FE} {p p2 pos : Pos} (T : Ty) (hm : X.mg "isinstance" = none) (hmT : X.mg (Str.ofString T.name) = none) (ha : DE X a fa) (hg : Gl X "isinstance" := by rfl) (hgT : Gl X (Str.ofString T.name) := by rfl)
    (hs1 : starEach [a, .Name (Str.ofString T.name) p2] X.env = (false, eval a X.env) :: starEach [.Name (Str.ofString T.name) p2] X.env := by rfl) : DE X (.Call (.Name "isinstance" p) [a, .Name (Str.ofString T.name) p2] [] pos) (fIsi T fa) := .of (by
  have hT : bootBuiltins (Str.ofString T.name) = some (.type T.name) := by
    cases T
    · exact PyProof.Rows.boot_int
    · exact PyProof.Rows.boot_bool
    · exact PyProof.Rows.boot_str
    · exact PyProof.Rows.boot_tuple
    · exact PyProof.Rows.boot_list
    · exact PyProof.Rows.boot_dict
  have hc : CallR X (.builtin "isinstance") (fun xs H Q => ∃ x ι g d, xs = [x, .ty T.name] ∧ RelG X.K H ι g ∧ Rel X.K H ι d x ∧ Q (.bl (isI T d)) H) := by
    intro pins s σ H xs us Q I r q
    obtain ⟨x, ι, g, d, rfl, G0, rd, q⟩ := q
    obtain ⟨u, w', rfl, ru, rt⟩ := vals2 r
    cases rt
    exact isi_call T I G0 rd ru fun tk => ⟨.bl _, H, I.tok _, rfl, q⟩
  refine PE.imp (pe_callB hc hg hm PyProof.Rows.boot_isinstance (pa_cons ha.un (pa_cons (pe_bltn (v := .ty T.name) hgT hmT hT rfl (by cases T <;> decide) (by cases T <;> decide)) pa_nil (by rfl)) hs1) (by decide) (by decide) hs1) fun σ H Q h => ?_
  obtain ⟨ι, σd, g, d, g', G0, S0, h, p⟩ := h
  obtain ⟨⟨d1, g1⟩, h1, h⟩ := bind_some h
  cases h
  exact tD.bind G0 S0 h1 fun H1 ι1 v e1 G1 S1 r1 => ⟨v, ι1, g1, d1, rfl, G1, r1, p H1 ι1 _ e1 G1 (by simp [Rel])⟩)
noncomputable def bools : List D → Option (List Bool)
  | [] => some []
  | .bl b :: ds => (bools ds).map (b :: ·)
  | _ => none
noncomputable def bAll (ds : List D) (g : G) : Option (D × G) := match ds with | [.lst xs] => (bools xs).map fun bs => (.bl (bs.all id), g) | _ => none
theorem bools_are {K H ι} : ∀ {xs : List D} {vs : List V} {us : List Value} {bs : List Bool}, bools xs = some bs → RelL K H ι xs vs → Vals vs us → us = bs.map Value.bool
  | [], vs, us, bs, hb, r, rv => by simp only [RelL] at r; subst r; cases rv; cases hb; rfl
  | .bl b :: ds, vs, us, bs, hb, r, rv => by
    simp only [RelL, Rel] at r
    obtain ⟨v, vr, rfl, rfl, hr⟩ := r
    cases rv with
    | cons r0 rr =>
      cases r0
      simp only [bools] at hb
      cases hb' : bools ds with
      | none => rw [hb'] at hb; cases hb
      | some bs' =>
        rw [hb'] at hb; cases hb
        rw [bools_are hb' hr rr]; rfl
  | .non :: ds, _, _, _, hb, _, _ => by simp [bools] at hb
  | .int _ :: ds, _, _, _, hb, _, _ => by simp [bools] at hb
  | .str _ :: ds, _, _, _, hb, _, _ => by simp [bools] at hb
  | .tup _ :: ds, _, _, _, hb, _, _ => by simp [bools] at hb
  | .lst _ :: ds, _, _, _, hb, _, _ => by simp [bools] at hb
  | .edc :: ds, _, _, _, hb, _, _ => by simp [bools] at hb
  | .ref _ :: ds, _, _, _, hb, _, _ => by simp [bools] at hb
theorem kept_iter' {s : Shared} {h' : Heap} {o : Obj} (hk : ∀ b x, b ∉ [s.heap.objs.size] → (s.heap.push o).get? b = some x → h'.get? b = some x) : ∀ b x, s.heap.get? b = some x → h'.get? b = some x :=
  fun b x e => hk b x (fun hm => by rw [List.mem_singleton.mp hm] at e; exact Nat.lt_irrefl _ (Heap.lt_size e)) (Heap.get?_push_of_some _ e)
theorem range_all' (bs : List Bool) : ((List.range bs.length).all fun i => (bs[i]?).getD true) = bs.all id := by
  rw [Bool.eq_iff_iff]
  simp only [List.all_eq_true, List.mem_range, id_eq]
  constructor
  · intro h x hx
    obtain ⟨i, hi, e⟩ := List.mem_iff_getElem.mp hx
    have := h i hi
    rw [List.getElem?_eq_getElem hi, e] at this
    simpa using this
  · intro h i hi
    rw [List.getElem?_eq_getElem hi]
    exact h _ (List.getElem_mem hi)
theorem cd_all (hc : X.calm = true) : CallR X (.builtin "all") (rDL X.K bAll) := by
  intro pins s σ H xs us Q I r q
  obtain ⟨ι, g, ds, d, g', G0, r1, q, p⟩ := q
  unfold bAll at q
  split at q
  · rename_i ys
    cases hb : bools ys with
    | none => rw [hb] at q; cases q
    | some bs =>
      rw [hb] at q; cases q
      simp only [RelL, Rel] at r1
      obtain ⟨_, _, rfl, ⟨a, vs, rfl, hq, hr⟩, rfl⟩ := r1
      obtain ⟨u, rfl, ru⟩ := vals1 r
      cases ru
      obtain ⟨its, rits, pl, hz⟩ := I.list hq.sq
      have e0 := bools_are hb hr rits
      subst e0
      have hl := pl.isList
      have hlt : a < s.heap.objs.size := by obtain ⟨_, e, _⟩ := hl; exact Heap.lt_size e
      refine call_all_walk (wpAny_pyIter_list hl ?_)
      refine ⟨s.heap.objs.size, [s.heap.objs.size, a], [s.heap.objs.size], _, _, _, fun i => (bs[i]?).getD true, rfl, Walks.list (A := X.A.in1) (I.ok.hd hc) _ a (Nat.ne_of_lt hlt) _,
        ⟨⟨_, Heap.get?_push_size _ rfl, rfl, rfl⟩, hl.push _⟩, fun i v s' Q' E' hP hQ => ?_, fun h' tk hk => ?_⟩
      · have hP' : (bs.map Value.bool)[i]? = some v := by simpa using hP
        rw [List.getElem?_map] at hP'
        cases e : bs[i]? with
        | none => rw [e] at hP'; cases hP'
        | some b =>
          rw [e] at hP'; cases hP'
          dsimp only at hQ
          rw [e] at hQ
          exact wpAny_truthy_bool hQ
      · have e : ((List.range (bs.map Value.bool).toArray.size).all fun i => (bs[i]?).getD true) = bs.all id := by
          rw [List.size_toArray, List.length_map]; exact range_all' bs
        rw [e]
        exact ⟨.bl _, H, I.kept (kept_iter' hk), rfl, p H ι _ Ext.refl G0 (by simp [Rel])⟩
  · cases q
noncomputable def oNe (d1 d2 : D) (g : G) : Option (D × G) := match d1, d2 with
  | .int i, .int j => some (.bl (!(i == j)), g)
  | .bl i, .bl j => some (.bl (!(i == j)), g)
  | .str i, .str j => some (.bl (!(i == j)), g)
  | .non, .non => some (.bl false, g)
  | .non, .int _ => some (.bl true, g)
  | .int _, .non => some (.bl true, g)
  | .non, .bl _ => some (.bl true, g)
  | .bl _, .non => some (.bl true, g)
  | .non, .str _ => some (.bl true, g)
  | .str _, .non => some (.bl true, g)
  | .int _, .str _ => some (.bl true, g)
  | .str _, .int _ => some (.bl true, g)
  | .bl _, .str _ => some (.bl true, g)
  | .str _, .bl _ => some (.bl true, g)
  | _, _ => none
end
end L3
namespace L3
open PySem PySem.Spec PyProof.Rows L2
open Sem (wp)
open Builtin
theorem tuple_addW0 (l b : Addr) (items items2 : Array Value) (n n2 : Nat) (dd dd2 : Option Addr) (sl sl2 : Array (Option Value)) (hc0 : items.isEmpty = true) :
    Meets (Builtin.«tuple.__add__» ⟨[.ref l, .ref b], []⟩) (fun _ R s => s.heap.get? l = some { cls := .type "tuple", dict := dd, data := .seq items n, slots := sl } ∧ s.heap.get? b = some { cls := .type "tuple", dict := dd2, data := .seq items2 n2, slots := sl2 } ∧ R (.ok (.ret (Value.ref b))) { s with heap := s.heap, toks := s.toks }) :=
  .of_wp fun prog w A R s h => by obtain ⟨hp, g, d, tk, os⟩ := s; obtain ⟨hl, hb, h⟩ := h; have f1 := AutoSeq1.idx_int; have f2 := AutoSeq1.sub_tuple_tuple; have f3 := AutoSeq1.sub_list_list; have f4 := AutoSeq1.sub_tuple_list; have f5 := AutoSeq1.sub_list_tuple; wp_walk using AutoSeq1.wpAny_loadPart' hl, AutoSeq1.wpAny_loadPart' hb; exact ⟨_, rfl, h⟩
theorem noFill_tuple_mul : fillsNumberSlot (.type "tuple") "mul" = pure false :=
  PySem.fillsNumberSlot_seq (id := "tuple.__mul__") (r := some (.builtin "tuple.__rmul__")) F.slot_tuple_mul.lookup (by decide +kernel) F.slot_tuple_rmul.lookup (by decide +kernel)
theorem repeat_tuple : seqRepeat? (.type "tuple") = pure (some (.builtin "tuple.__mul__")) := by
  unfold seqRepeat?
  rw [PySem.seqSlot_of (T := "tuple") (name := "__mul__") (id := "tuple.__mul__") F.slot_tuple_mul.lookup (by decide +kernel), PySem.seqSlot_of (T := "tuple") (name := "__rmul__") (id := "tuple.__rmul__") F.slot_tuple_rmul.lookup (by decide +kernel)]
  rfl
theorem int_rmul_tuple (a : Int) (t : Tok) (l : Addr) (items : Array Value) (n : Nat) (dd : Option Addr) (sl : Array (Option Value)) :
    Meets (Builtin.«int.__rmul__» ⟨[.int a t, .ref l], []⟩) (fun _ R s => s.heap.get? l = some { cls := .type "tuple", dict := dd, data := .seq items n, slots := sl } ∧ R (.ok (.ret Value.notImplemented)) s) :=
  .of_wp fun prog w A R s h => by obtain ⟨hp, g, d, tk, os⟩ := s; obtain ⟨hl, h⟩ := h; wp_walk; exact ⟨_, rfl, h⟩
theorem tuple_mulW (l : Addr) (items : Array Value) (n : Nat) (dd : Option Addr) (sl : Array (Option Value)) (x : Int) (u : Tok) (h0 : ¬ (decide (x < -(2 ^ 63)) || decide (x ≥ 2 ^ 63)) = true) (h1 : ¬ (items.isEmpty || x == 1) = true) (h2 : ¬ (decide (x ≤ 0) || items.isEmpty) = true)
    (h3 : ¬ (items.size : Int) * x > (2 ^ 63 - 1) / 8) (h4 : ¬ Builtin.Tuple.tupleTooMany ((items.size : Int) * x) = true) (hsz : ((List.replicate x.toNat items).foldl (· ++ ·) #[]).size ≤ sizeLine) :
    Meets (Builtin.«tuple.__mul__» ⟨[.ref l, .int x u], []⟩) (fun _ R s => s.heap.get? l = some { cls := .type "tuple", dict := dd, data := .seq items n, slots := sl } ∧ R (.ok (.ret (Value.ref s.heap.objs.size))) { s with heap := s.heap.push { cls := Value.type "tuple", data := Data.seq ((List.replicate x.toNat items).foldl (· ++ ·) #[]) }, toks := s.toks }) :=
  .of_wp fun prog w A R s h => by
    obtain ⟨hp, g, d, tk, os⟩ := s; obtain ⟨hl, h⟩ := h
    have f1 := AutoSeq1.idx_int; have f2 := AutoSeq1.sub_tuple_tuple
    wp_walk using AutoSeq1.wpAny_loadPart' hl
    refine wpAny_ite_false (decide_eq_false h0) ?_
    wp_walk using AutoSeq1.wpAny_loadPart' hl
    refine wpAny_ite_false (decide_eq_false h3) ?_
    wp_walk using AutoSeq1.wpAny_loadPart' hl
    exact ⟨_, rfl, h⟩
theorem tuple_mulW1 (l : Addr) (items : Array Value) (n : Nat) (dd : Option Addr) (sl : Array (Option Value)) (x : Int) (u : Tok) (h0 : ¬ (decide (x < -(2 ^ 63)) || decide (x ≥ 2 ^ 63)) = true) (h1 : (items.isEmpty || x == 1) = true) :
    Meets (Builtin.«tuple.__mul__» ⟨[.ref l, .int x u], []⟩) (fun _ R s => s.heap.get? l = some { cls := .type "tuple", dict := dd, data := .seq items n, slots := sl } ∧ R (.ok (.ret (Value.ref l))) { s with heap := s.heap, toks := s.toks }) :=
  .of_wp fun prog w A R s h => by
    obtain ⟨hp, g, d, tk, os⟩ := s; obtain ⟨hl, h⟩ := h
    have f1 := AutoSeq1.idx_int; have f2 := AutoSeq1.sub_tuple_tuple
    wp_walk using AutoSeq1.wpAny_loadPart' hl
    refine wpAny_ite_false (decide_eq_false h0) ?_
    wp_walk using AutoSeq1.wpAny_loadPart' hl
    exact ⟨_, rfl, h⟩
theorem tuple_mulW0 (l : Addr) (items : Array Value) (n : Nat) (dd : Option Addr) (sl : Array (Option Value)) (x : Int) (u : Tok) (h0 : ¬ (decide (x < -(2 ^ 63)) || decide (x ≥ 2 ^ 63)) = true) (h1 : ¬ (items.isEmpty || x == 1) = true) (h2 : (decide (x ≤ 0) || items.isEmpty) = true) :
    Meets (Builtin.«tuple.__mul__» ⟨[.ref l, .int x u], []⟩) (fun _ R s => s.heap.get? l = some { cls := .type "tuple", dict := dd, data := .seq items n, slots := sl } ∧ R (.ok (.ret (Value.ref s.heap.objs.size))) { s with heap := s.heap.push { cls := Value.type "tuple", data := Data.seq #[] }, toks := s.toks }) :=
  .of_wp fun prog w A R s h => by
    obtain ⟨hp, g, d, tk, os⟩ := s; obtain ⟨hl, h⟩ := h
    have f1 := AutoSeq1.idx_int; have f2 := AutoSeq1.sub_tuple_tuple
    wp_walk using AutoSeq1.wpAny_loadPart' hl
    refine wpAny_ite_false (decide_eq_false h0) ?_
    wp_walk using AutoSeq1.wpAny_loadPart' hl
    exact ⟨_, rfl, h⟩
section
variable {X : Cx}
noncomputable def rMulT (K : PySem.W.Frag) : R2 := fun x y H Q => ∃ a k xs, x = .ref a ∧ y = .int k ∧ SqT K H a xs ∧ -(2 ^ 63) ≤ k ∧ k < 2 ^ 63 ∧ xs.length * k.toNat ≤ 16777216 ∧
  ((xs = [] ∨ k = 1) → Q (.ref a) H) ∧ (xs ≠ [] → k ≤ 0 → ∀ p, H p = none → Q (.ref p) (upd H p (.tup []))) ∧ (xs ≠ [] → 2 ≤ k → ∀ p, H p = none → Q (.ref p) (upd H p (.tup (List.replicate k.toNat xs).flatten)))
theorem op_mulT : OpR X (binaryOp .Mult) (rMulT X.K) := by
  intro pins s σ H x y v u Q I rx ry h
  obtain ⟨a, k, xs, rfl, rfl, hq, h1, h2, hz, q1, q0, q2⟩ := h
  cases rx
  obtain ⟨t, rfl⟩ := ry
  obtain ⟨its, r, ht, hzz⟩ := I.tuple hq
  have hl := r.length
  obtain ⟨⟨cls, dd, data, sl⟩, ho, hc, n, hd⟩ := id ht
  simp only at hc hd
  subst hc hd
  have hk : ¬ (decide (k < -(2 ^ 63)) || decide (k ≥ 2 ^ 63)) = true := by
    rw [Bool.or_eq_true, decide_eq_true_eq, decide_eq_true_eq]
    omega
  refine wpAny_binaryOp_repeat_ref (T := "tuple") (U := "int") (by decide) ⟨_, ho, rfl⟩ (fun s' => typeIs_int s' k t) noFill_tuple_mul F.fills_int_mul F.slot_int_rmul repeat_tuple F.slot_int_index.lookup
    (call_meets F.slot_int_rmul (typeIs_int s k t) F.entry_int_rmul (F.args_int_rmul_2 _ _) (int_rmul_tuple k t a its.toArray n dd sl) ⟨ho, rfl, ⟨_, ho, rfl⟩, ?_⟩)
  by_cases c1 : xs = [] ∨ k = 1
  · refine call_meets F.slot_tuple_mul ⟨_, ho, rfl⟩ F.entry_tuple_mul (F.args_tuple_mul_2 _ _) (tuple_mulW1 a its.toArray n dd sl k t hk ?_) ⟨ho, .ref a, H, I, rfl, q1 c1⟩
    rcases c1 with c1 | c1
    · subst c1
      cases r
      simp
    · subst c1; simp
  · have hx : xs ≠ [] := fun e => c1 (.inl e)
    have hk1 : k ≠ 1 := fun e => c1 (.inr e)
    have hi : its ≠ [] := fun e => hx (by subst e; cases r; rfl)
    have n1 : ¬ (its.toArray.isEmpty || k == 1) = true := by simp [hi, hk1]
    have fresh : H s.heap.objs.size = none := I.hok.fresh (Nat.le_refl _)
    by_cases c0 : k ≤ 0
    · refine call_meets F.slot_tuple_mul ⟨_, ho, rfl⟩ F.entry_tuple_mul (F.args_tuple_mul_2 _ _) (tuple_mulW0 a its.toArray n dd sl k t hk n1 (by simp [c0])) ⟨ho, ?_⟩
      refine ⟨.ref _, _, I.laid (t' := s.toks) (fun b u e => Heap.get?_push_of_some _ e) (Nat.le_refl _) ?_, rfl, q0 hx c0 _ fresh⟩
      exact ⟨Nat.zero_le _, [], .nil, ⟨_, Heap.get?_push_size _ rfl, rfl, _, rfl⟩⟩
    · have hnew : List.foldl (fun x1 x2 => x1 ++ x2) #[] (List.replicate k.toNat its.toArray) = (List.replicate k.toNat its).flatten.toArray := by
        have := foldl_rep its k.toNat []
        rw [List.nil_append] at this
        exact this
      have hs : sizeLine = 16777216 := sizeLine_eq
      have hsz : (its.length : Int) * k ≤ 16777216 := by
        have e1 : ((xs.length * k.toNat : Nat) : Int) ≤ 16777216 := Int.ofNat_le.mpr hz
        rw [Int.natCast_mul, Int.toNat_of_nonneg (by omega), hl] at e1
        exact e1
      refine call_meets F.slot_tuple_mul ⟨_, ho, rfl⟩ F.entry_tuple_mul (F.args_tuple_mul_2 _ _) (tuple_mulW a its.toArray n dd sl k t hk n1 (by simp [c0, hi]) (by rw [List.size_toArray]; omega) ?_ ?_) ⟨ho, ?_⟩
      · rw [List.size_toArray]
        unfold Tuple.tupleTooMany
        simp
        omega
      · rw [hnew, List.size_toArray, len_rep, ← hl, Nat.mul_comm, hs]; exact hz
      · rw [hnew]
        refine ⟨.ref _, _, I.laid (t' := s.toks) (fun b u e => Heap.get?_push_of_some _ e) (Nat.le_refl _) ?_, rfl, q2 hx (by omega) _ fresh⟩
        exact ⟨by rw [len_rep, Nat.mul_comm, hs]; exact hz, _, r.rep k.toNat, ⟨_, Heap.get?_push_size _ rfl, rfl, _, rfl⟩⟩
theorem RelL.rep {K H ι} {xs : List D} {vs : List V} (r : RelL K H ι xs vs) : ∀ k : Nat, RelL K H ι (List.replicate k xs).flatten (List.replicate k vs).flatten
  | 0 => by simp [RelL]
  | k + 1 => by
    rw [List.replicate_succ, List.replicate_succ, List.flatten_cons, List.flatten_cons]
    exact RelL.append r (RelL.rep r k)
noncomputable def oMul (d1 d2 : D) (g : G) : Option (D × G) := match d1, d2 with
  | .int i, .int j => if okMul i j = true then some (.int (i * j), g) else none
  | .tup xs, .int k => if (okR k && szOk (xs.length * k.toNat)) = true then some (.tup (List.replicate k.toNat xs).flatten, g) else none
  | _, _ => none
theorem od_mul : OpR X (binaryOp .Mult) (rD2 X.K oMul) := by
  intro pins s σ H x y v u Q I rx ry q
  obtain ⟨ι, g, d1, d2, d, g', G0, r1, r2, q, p⟩ := q
  unfold oMul at q
  split at q
  · split at q
    · rename_i i j z
      exact od_mulI pins s σ H x y v u Q I rx ry ⟨ι, g, .int i, .int j, d, g', G0, r1, r2, by simp only [iOp]; rw [if_pos z]; exact q, p⟩
    · cases q
  · split at q
    · rename_i xs k z
      simp only [Bool.and_eq_true] at z
      have z1 := okR.and z.1
      have z2 := szOk.le z.2
      cases q
      simp only [Rel] at r1 r2
      obtain ⟨a, vs, rfl, hq, hr⟩ := r1
      subst r2
      have hl := hr.length
      have new : ∀ {zs : List D} {ws : List V}, RelL X.K H ι zs ws → zs = (List.replicate k.toNat xs).flatten → ∀ q, H q = none → Q (.ref q) (upd H q (.tup ws)) := fun {zs ws} rz ez q hq' => by
        subst ez
        refine p _ _ _ (Ext.lay hq') (G0.lay hq') ?_
        simp only [Rel]
        exact ⟨q, ws, rfl, .inl ⟨.inl upd_same, G0.fresh hq'⟩, RelL.ext (Ext.lay hq') _ rz⟩
      refine op_mulT pins s σ H _ _ v u Q I rx ry ⟨a, k, vs, rfl, rfl, hq.sq, (by omega), (by omega), by rw [← hl]; exact z2, fun c => ?_, fun hx hk => ?_, fun hx hk => ?_⟩
      · refine p H ι _ Ext.refl G0 ?_
        simp only [Rel]
        refine ⟨a, vs, rfl, hq, ?_⟩
        rcases c with c | c
        · subst c
          have : xs = [] := List.eq_nil_of_length_eq_zero (by simpa using hl)
          subst this
          have e0 : (List.replicate k.toNat ([] : List D)).flatten = [] := by simp
          rw [e0]; exact hr
        · subst c
          have e0 : (List.replicate (1 : Int).toNat xs).flatten = xs := by simp
          rw [e0]; exact hr
      · refine new (zs := []) (by simp [RelL]) ?_
        have : k.toNat = 0 := by omega
        rw [this]; simp
      · exact new (hr.rep k.toNat) rfl
    · cases q
  · cases q
theorem op_catT0 : OpR X (binaryOp .Add) (fun x y H Q => ∃ a b ys, x = .ref a ∧ y = .ref b ∧ SqT X.K H a [] ∧ SqT X.K H b ys ∧ Q (.ref b) H) := by
  intro pins s σ H x y v u Q I rx ry h
  obtain ⟨a, b, ys, rfl, rfl, ha, hb, q⟩ := h
  cases rx
  cases ry
  obtain ⟨its, r1, p1, _⟩ := I.tuple ha
  obtain ⟨its2, r2, p2, _⟩ := I.tuple hb
  obtain ⟨⟨cls, dd, data, sl⟩, ho, hc, n, hd⟩ := id p1
  obtain ⟨⟨cls2, dd2, data2, sl2⟩, ho2, hc2, n2, hd2⟩ := id p2
  simp only at hc hd hc2 hd2
  subst hc hd hc2 hd2
  exact concat_meets ⟨_, ho, rfl⟩ ⟨_, ho2, rfl⟩ noFill_tuple_add seq_tuple_add PySem.F.slot_tuple_add PySem.F.entry_tuple_add (PySem.F.args_tuple_add_2 _ _)
      (tuple_addW0 a b its.toArray its2.toArray n n2 dd dd2 sl sl2 (by cases r1; simp)) ⟨ho, ho2, .ref b, H, I, rfl, q⟩
theorem op_catL : OpR X (binaryOp .Add) (fun x y H Q => ∃ a b xs ys, x = .ref a ∧ y = .ref b ∧ SqL X.K H a xs ∧ SqL X.K H b ys ∧ xs.length + ys.length ≤ sizeLine ∧ ∀ p, H p = none → Q (.ref p) (upd H p (.lst (xs ++ ys)))) := by
  intro pins s σ H x y v u Q I rx ry h
  obtain ⟨a, b, xs, ys, rfl, rfl, ha, hb, hz, q⟩ := h
  cases rx
  cases ry
  obtain ⟨its, r1, p1, _⟩ := I.list ha
  obtain ⟨its2, r2, p2, _⟩ := I.list hb
  obtain ⟨⟨cls, dd, data, sl⟩, n, ho, hc, hdd, hd⟩ := id p1
  obtain ⟨⟨cls2, dd2, data2, sl2⟩, n2, ho2, hc2, hdd2, hd2⟩ := id p2
  simp only at hc hd hc2 hd2 hdd hdd2
  subst hc hd hc2 hd2 hdd hdd2
  have e : its.toArray ++ its2.toArray = (its ++ its2).toArray := by simp
  have hl : its.length + its2.length ≤ sizeLine := by rw [← r1.length, ← r2.length]; exact hz
  refine concat_meets ⟨_, ho, rfl⟩ ⟨_, ho2, rfl⟩ noFill_list_add seq_list_add PySem.F.slot_list_add PySem.F.entry_list_add (PySem.F.args_list_add_2 _ _) (list_addW a b its.toArray its2.toArray n n2 none none sl sl2 (by simpa using hl)) ⟨ho, ho2, ?_⟩
  rw [e]
  exact ⟨.ref _, _, I.lnew (t' := s.toks) (r1.append r2) (by rw [List.length_append]; exact hz), rfl, q _ I.fresh⟩
noncomputable def lstOf (d : D) (g : G) : Option (List D) := match d with
  | .lst xs => some xs
  | .ref n => g[n]?
  | _ => none
theorem lstOf_sq {K H ι g d v xs} (G0 : RelG K H ι g) (r : Rel K H ι d v) (h : lstOf d g = some xs) : ∃ a vs, v = .ref a ∧ SqL K H a vs ∧ RelL K H ι xs vs := by
  cases d with
  | lst ys =>
    cases h
    simp only [Rel] at r
    obtain ⟨a, vs, rfl, hq, hr⟩ := r
    exact ⟨a, vs, rfl, hq.sq, hr⟩
  | ref n =>
    simp only [Rel] at r
    obtain ⟨a, rfl, ha⟩ := r
    obtain ⟨vs, h1, h2⟩ := G0.at h ha
    exact ⟨a, vs, rfl, .of h1, h2⟩
  | _ => cases h
noncomputable def oAdd (d1 d2 : D) (g : G) : Option (D × G) := match d1, d2 with
  | .int i, .int j => some (.int (i + j), g)
  | .tup xs, .tup ys => if szOk (xs.length + ys.length) = true then some (.tup (xs ++ ys), g) else none
  | .str i, .str j => if szOk (i.length + j.length) = true then some (.str (i ++ j), g) else none
  | d1, d2 => match lstOf d1 g, lstOf d2 g with
    | some xs, some ys => if szOk (xs.length + ys.length) = true then some (.lst (xs ++ ys), g) else none
    | _, _ => none
theorem od_add : OpR X (binaryOp .Add) (rD2 X.K oAdd) := by
  intro pins s σ H x y v u Q I rx ry q
  obtain ⟨ι, g, d1, d2, d, g', G0, r1, r2, q, p⟩ := q
  unfold oAdd at q
  split at q
  · rename_i i j
    exact od_addI pins s σ H x y v u Q I rx ry ⟨ι, g, .int i, .int j, d, g', G0, r1, r2, q, p⟩
  · split at q
    · rename_i xs ys z
      cases q
      simp only [Rel] at r1 r2
      obtain ⟨a, vs, rfl, hq, hr⟩ := r1
      obtain ⟨b, ws, rfl, hq2, hr2⟩ := r2
      by_cases hx : vs = []
      · subst hx
        have : xs = [] := List.eq_nil_of_length_eq_zero (by simpa using hr.length)
        subst this
        refine op_catT0 pins s σ H _ _ v u Q I rx ry ⟨a, b, ws, rfl, rfl, hq.sq, hq2.sq, p H ι _ Ext.refl G0 ?_⟩
        simp only [Rel, List.nil_append]
        exact ⟨b, ws, rfl, hq2, hr2⟩
      · refine op_catT pins s σ H _ _ v u Q I rx ry ⟨a, b, vs, ws, rfl, rfl, hq.sq, hq2.sq, hx, by rw [← hr.length, ← hr2.length]; exact szOk.le z, fun e => ?_, fun e q' hq' => ?_⟩
        · subst e
          have : ys = [] := List.eq_nil_of_length_eq_zero (by simpa using hr2.length)
          subst this
          refine p H ι _ Ext.refl G0 ?_
          simp only [Rel, List.append_nil]
          exact ⟨a, vs, rfl, hq, hr⟩
        · refine p _ _ _ (Ext.lay hq') (G0.lay hq') ?_
          simp only [Rel]
          exact ⟨q', _, rfl, .inl ⟨.inl upd_same, G0.fresh hq'⟩, RelL.ext (Ext.lay hq') _ (RelL.append hr hr2)⟩
    · cases q
  · split at q
    · rename_i x1 y1 z
      cases q
      simp only [Rel] at r1 r2
      subst r1 r2
      exact op_add_str pins s σ H _ _ v u Q I rx ry ⟨x1, y1, rfl, rfl, szOk.le z, p H ι _ Ext.refl G0 (by simp [Rel])⟩
    · cases q
  · split at q
    · rename_i xs ys e1 e2
      split at q
      · rename_i z
        cases q
        obtain ⟨a, vs, rfl, hq, hr⟩ := lstOf_sq G0 r1 e1
        obtain ⟨b, ws, rfl, hq2, hr2⟩ := lstOf_sq G0 r2 e2
        refine op_catL pins s σ H _ _ v u Q I rx ry ⟨a, b, vs, ws, rfl, rfl, hq, hq2, by rw [← hr.length, ← hr2.length]; exact szOk.le z, fun q' hq' => ?_⟩
        refine p _ _ _ (Ext.lay hq') (G0.lay hq') ?_
        simp only [Rel]
        exact ⟨q', _, rfl, .inl ⟨.inl upd_same, G0.fresh hq', G0.freshH hq'⟩, RelL.ext (Ext.lay hq') _ (RelL.append hr hr2)⟩
      · cases q
    · cases q
noncomputable abbrev FO := Sg → G → Option (Option Int × G)
inductive tDO (K : PySem.W.Frag) (f : FO)  (σ : L2.St) (H : Hp) (Q : (Option Int → Hp → Prop)) : Prop
  | mk (ι : Ix) (σd : Sg) (g : G) (o : Option Int) (g' : G) (h0 : RelG K H ι g) (h1 : RelS K H ι σd σ) (h2 : f σd g = some (o, g')) (h3 : PostB K H ι g' (Q o)) : tDO K f σ H Q
structure DO (X : Cx) (e : Option Expr) (f : FO) : Prop where of ::
  un : PO X e (tDO X.K f)
theorem PO.imp {X : Cx} {e : Option Expr} {t t' : TO} (h : PO X e t) (i : ∀ σ H Q, t' σ H Q → t σ H Q) : PO X e t' := fun pins s σ H Q I q => h pins s σ H Q I (i σ H Q q)
noncomputable def fNoP : FO := fun _ g => some (none, g)
noncomputable def fPart (f : FE) : FO := fun σ g => (f σ g).bind fun r => match r.1 with | .int i => some (some i, r.2) | _ => none
theorem do_none : DO X none fNoP := .of (PO.imp po_none fun σ H Q h => by
  obtain ⟨ι, σd, g, o, g', G0, S0, h, p⟩ := h
  cases h
  exact p H ι Ext.refl G0)
theorem do_some {e : Expr} {f : FE} (h : DE X e f) : DO X (some e) (fPart f) := .of (PO.imp (po_some h.un) fun σ H Q h => by
  obtain ⟨ι, σd, g, o, g', G0, S0, h, p⟩ := h
  obtain ⟨⟨d, g1⟩, h1, h⟩ := bind_some h
  cases d with
  | int i =>
    cases h
    exact tD.bind G0 S0 h1 fun H1 ι1 v e1 G1 S1 r1 => ⟨i, by simpa [Rel] using r1, p H1 ι1 e1 G1⟩
  | _ => cases h)
noncomputable def cutD (xs : List D) (lo hi : Option Int) : List D := (xs.drop (HT.sIx xs.length 0 lo)).take (HT.sIx xs.length xs.length hi - HT.sIx xs.length 0 lo)
noncomputable def wholeD (n : Nat) (lo hi : Option Int) : Bool := decide (HT.sIx n 0 lo = 0) && decide (HT.sIx n n hi = n)
noncomputable def oSl (d : D) (lo hi : Option Int) (g : G) : Option (D × G) := match d with
  | .tup xs => if wholeD xs.length lo hi = true then none else some (.tup (cutD xs lo hi), g)
  | .lst xs => some (.lst (cutD xs lo hi), g)
  | .ref n => match g[n]? with | some xs => some (.lst (cutD xs lo hi), g) | none => none
  | _ => none
noncomputable def fSl (fa : FE) (fl fh : FO) : FE := fun σ g => (fa σ g).bind fun r => (fl σ r.2).bind fun l => (fh σ l.2).bind fun h => oSl r.1 l.1 h.1 h.2
theorem RelL.cutv {K H ι} {xs : List D} {vs : List V} (r : RelL K H ι xs vs) (lo hi : Option Int) : RelL K H ι (cutD xs lo hi) (cutV vs lo hi) := by
  unfold cutD cutV
  rw [← r.length]
  exact RelL.take _ (RelL.drop _ r)
noncomputable def rSlD (K : PySem.W.Frag) : V → Option Int → Option Int → Hp → VK → Prop := fun x lo hi H Q => rSlT K x lo hi H Q ∨ rSlL K x lo hi H Q
theorem sl_both : SlR X (rSlD X.K) := by
  intro pins s σ H x v vl vu lo hi sl Q I rx hs pl pu h
  rcases h with h | h
  · exact sl_tup pins s σ H x v vl vu lo hi sl Q I rx hs pl pu h
  · exact sl_list pins s σ H x v vl vu lo hi sl Q I rx hs pl pu h
theorem de_slice {a : Expr} {lo hi : Option Expr} {fa : FE} {fl fh : FO} {p2 pos : Pos} (ha : DE X a fa) (hl : DO X lo fl) (hh : DO X hi fh) : DE X (.Subscript a (.Slice lo hi none p2) pos) (fSl fa fl fh) := .of (
  PE.imp (pe_slice sl_both ha.un hl.un hh.un) fun σ H Q h => by
    obtain ⟨ι, σd, g, d, g', G0, S0, h, p⟩ := h
    obtain ⟨⟨d1, g1⟩, h1, h⟩ := bind_some h
    obtain ⟨⟨l, g2⟩, h2, h⟩ := bind_some h
    obtain ⟨⟨u, g3⟩, h3, h⟩ := bind_some h
    refine tD.bind G0 S0 h1 fun H1 ι1 v e1 G1 S1 r1 => ?_
    refine ⟨ι1, σd, g1, l, g2, G1, S1, h2, fun H2 ι2 e2 G2 => ?_⟩
    refine ⟨ι2, σd, g2, u, g3, G2, S1.ext e2, h3, fun H3 ι3 e3 G3 => ?_⟩
    have r3 := Rel.ext (e2.trans e3) _ r1
    have p3 := p.mono (e1.trans (e2.trans e3))
    have lst : ∀ {xs : List D} {a : Addr} {vs : List V}, v = .ref a → SqL X.K H3 a vs → RelL X.K H3 ι3 xs vs → some (D.lst (cutD xs l u), g3) = some (d, g') → rSlD X.K v l u H3 Q := fun {xs a vs} ev hq hr hh => by
      cases hh
      refine .inr ⟨a, vs, ev, hq, fun q hq' => p3 _ _ _ (Ext.lay hq') (G3.lay hq') ?_⟩
      simp only [Rel]
      exact ⟨q, _, rfl, .inl ⟨.inl upd_same, G3.fresh hq', G3.freshH hq'⟩, RelL.ext (Ext.lay hq') _ (hr.cutv l u)⟩
    dsimp only at h
    cases d1 with
    | tup xs =>
      simp only [oSl] at h
      split at h
      · cases h
      · rename_i z
        cases h
        simp only [Rel] at r3
        obtain ⟨a, vs, rfl, hq, hr⟩ := r3
        refine .inl ⟨a, vs, rfl, hq.sq, fun c => z ?_, fun q hq' => p3 _ _ _ (Ext.lay hq') (G3.lay hq') ?_⟩
        · unfold wholeD
          rw [hr.length, Bool.and_eq_true, decide_eq_true_eq, decide_eq_true_eq]; exact c
        · simp only [Rel]
          exact ⟨q, _, rfl, .inl ⟨.inl upd_same, G3.fresh hq'⟩, RelL.ext (Ext.lay hq') _ (hr.cutv l u)⟩
    | lst xs =>
      simp only [oSl] at h
      simp only [Rel] at r3
      obtain ⟨a, vs, e0, hq, hr⟩ := r3
      exact lst e0 hq.sq hr h
    | ref n =>
      simp only [oSl] at h
      split at h
      · rename_i xs hx
        simp only [Rel] at r3
        obtain ⟨a, e0, ha⟩ := r3
        obtain ⟨vs, hv, hr⟩ := G3.at hx ha
        exact lst e0 (.of hv) hr h
      · cases h
    | _ => cases h)
end
end L3
namespace L3
open PySem PySem.Spec PyProof.Rows L2
noncomputable def oLt := iCm fun i j => decide (i < j)
noncomputable def oLe := iCm fun i j => decide (i ≤ j)
noncomputable def oGt := iCm fun i j => decide (j < i)
noncomputable def oGe := iCm fun i j => decide (j ≤ i)
noncomputable def compChk (S : Scope) (XN N : List Str) (fr : List (Option Nat)) (scope : Scope) : Bool :=
  decide (scope.kind = .function) && scope.names.all (fun y => decide (y.2 ≠ .cell)) && scope.names.all (fun y => !decide (y.2 = .local) || decide (scope.names.lookup y.1 = some .local)) &&
  scope.names.all (fun y => !decide (y.2 = .free) || (decide (scope.names.lookup y.1 = some .free) && (decide (S.names.lookup y.1 = some .cell) || decide (S.names.lookup y.1 = some .free)))) &&
  decide (fr.length = N.length) && (List.range fr.length).all (fun j => match fr[j]? with
    | some (some i) => match N[j]? with
      | some x => decide (XN[i]? = some x) && decide (scope.names.lookup x = some .free)
      | none => false
    | _ => true)
theorem compOk_of {X : Cx} {N : List Str} {fr : List (Option Nat)} {scope : Scope} {S : Scope} {XN : List Str} (hS : X.env.scope = S) (hN : X.N = XN) (h : compChk S XN N fr scope = true) : CompOk X N fr scope := by
  unfold compChk at h
  simp only [Bool.and_eq_true, decide_eq_true_eq, List.all_eq_true, Bool.or_eq_true, Bool.not_eq_true', decide_eq_false_iff_not] at h
  obtain ⟨⟨⟨⟨⟨h1, h2⟩, h3⟩, h4⟩, h5⟩, h6⟩ := h
  refine ⟨h1, h2, fun y hy e => ?_, fun y hy e => ?_, h5, fun j i hf => ?_⟩
  · rcases h3 y hy with z | z
    · exact absurd e z
    · exact z
  · rcases h4 y hy with z | z
    · exact absurd e z
    · refine ⟨z.1, ?_⟩
      show X.env.scope.names.lookup y.1 = _ ∨ X.env.scope.names.lookup y.1 = _
      rw [hS]; exact z.2
  · have hj : j ∈ List.range fr.length := List.mem_range.mpr (List.getElem?_eq_some_iff.mp hf).1
    have := h6 j hj
    rw [hf] at this
    dsimp only at this
    split at this
    · rename_i x hx
      simp only [Bool.and_eq_true, decide_eq_true_eq] at this
      exact ⟨x, hx, by rw [hN]; exact this.1, this.2⟩
    · cases this
noncomputable def iSeq (f : FE) : FI := fun σ g => (f σ g).bind fun r => match r.1 with | .tup xs => some (xs, r.2) | .lst xs => some (xs, r.2) | _ => none
theorem di_seq {X : Cx} {tg l : Expr} {fe : FE} (hl : DE X l fe) : DI X tg l (iSeq fe) := .of (by
  intro pins s σ H R I h
  obtain ⟨ι, σd, g, ds, g', G0, S0, h, p⟩ := h
  obtain ⟨⟨d1, g1⟩, h1, h2⟩ := bind_some h
  cases d1 with
  | tup xs =>
    have h3 : iSeqT fe σd g = some (ds, g') := by unfold iSeqT; rw [h1]; exact h2
    exact (di_tup hl).un pins s σ H R I ⟨ι, σd, g, ds, g', G0, S0, h3, p⟩
  | lst xs =>
    have h3 : iSeqL fe σd g = some (ds, g') := by unfold iSeqL; rw [h1]; exact h2
    exact (di_lst hl).un pins s σ H R I ⟨ι, σd, g, ds, g', G0, S0, h3, p⟩
  | _ => cases h2)
end L3
namespace L3
open PySem L2
section
variable {σ : Sg} {g : G} {fa fb fc : FE} {fr : FA} {ga gb : FT} {f1 f2 : FS} {o o' : D → D → G → Option (D × G)} {fn : Fn} {t : FG} {ts : FGs}
@[simp] theorem ev_fC {d} : fC d σ g = some (d, g) := rfl
@[simp] theorem ev_fVar {i : Nat} : fVar i σ g = (match σ[i]? with | some (some d) => some (d, g) | _ => none) := rfl
@[simp] theorem ev_fOp : fOp o fa fb σ g = (fa σ g).bind fun r => (fb σ r.2).bind fun q => o r.1 q.1 q.2 := rfl
@[simp] theorem ev_fUn {o : D → G → Option (D × G)} : fUn o fa σ g = (fa σ g).bind fun r => o r.1 r.2 := rfl
@[simp] theorem ev_asB {b : Bool} : asB (some (.bl b, g)) = some (b, g) := rfl
@[simp] theorem ev_fTest : fTest fa σ g = asB (fa σ g) := rfl
@[simp] theorem ev_fChain : fChain o o' fa fb fc σ g = (fa σ g).bind fun r => (fb σ r.2).bind fun q => (asB (o r.1 q.1 q.2)).bind fun k => if k.1 = true then (fc σ k.2).bind fun w => o' q.1 w.1 w.2 else some (.bl false, k.2) := rfl
@[simp] theorem ev_fTru : fTru fa σ g = (fa σ g).bind fun r => (truD r.1 r.2).map fun b => (b, r.2) := rfl
@[simp] theorem ev_tru_bl {b : Bool} : truD (.bl b) g = some b := rfl
@[simp] theorem ev_tru_int {i : Int} : truD (.int i) g = some (i != 0) := rfl
@[simp] theorem ev_fAnd : fAnd ga gb σ g = (ga σ g).bind fun r => if r.1 = true then gb σ r.2 else some (false, r.2) := rfl
@[simp] theorem ev_fOr : fOr ga gb σ g = (ga σ g).bind fun r => if r.1 = true then some (true, r.2) else gb σ r.2 := rfl
@[simp] theorem ev_fNot : fNot ga σ g = (ga σ g).bind fun r => some (!r.1, r.2) := rfl
@[simp] theorem ev_fAndV : fAndV fa fb σ g = (asB (fa σ g)).bind fun r => if r.1 = true then fb σ r.2 else some (.bl false, r.2) := rfl
@[simp] theorem ev_fOrV : fOrV fa fb σ g = (asB (fa σ g)).bind fun r => if r.1 = true then some (.bl true, r.2) else fb σ r.2 := rfl
@[simp] theorem ev_fNotV : fNotV fa σ g = (asB (fa σ g)).bind fun r => some (.bl (!r.1), r.2) := rfl
@[simp] theorem ev_fIfx : fIfx ga fa fb σ g = (ga σ g).bind fun r => if r.1 = true then fa σ r.2 else fb σ r.2 := rfl
@[simp] theorem ev_fNil : fNil σ g = some ([], g) := rfl
@[simp] theorem ev_fCons : fCons fa fr σ g = (fa σ g).bind fun r => (fr σ r.2).bind fun q => some (r.1 :: q.1, q.2) := rfl
@[simp] theorem ev_fMk {m : List D → G → Option (D × G)} : fMk m fr σ g = (fr σ g).bind fun r => m r.1 r.2 := rfl
@[simp] theorem sz_of {n : Nat} (h : n ≤ 16777216) : szOk n = true := decide_eq_true h
@[simp] theorem ev_mkTup' {ds : List D} : mkTup ds g = if szOk ds.length = true then some (.tup ds, g) else none := rfl
@[simp] theorem ev_mkLst' {ds : List D} : mkLst ds g = if szOk ds.length = true then some (.lst ds, g) else none := rfl
@[simp] theorem ev_mkRef' {ds : List D} : mkRef ds g = if szOk ds.length = true then some (.ref g.length, g ++ [ds]) else none := rfl
@[simp] theorem ev_fSkip : fSkip σ g = some (.nx, σ, g) := rfl
@[simp] theorem ev_fSeq : fSeq f1 f2 σ g = (f1 σ g).bind fun r => match r.1 with | .nx => f2 r.2.1 r.2.2 | _ => some r := rfl
@[simp] theorem ev_fRet : fRet fa σ g = (fa σ g).bind fun r => some (.rt r.1, σ, r.2) := rfl
@[simp] theorem ev_fRetN : fRetN σ g = some (.rt .non, σ, g) := rfl
@[simp] theorem ev_fIf : fIf ga f1 f2 σ g = (ga σ g).bind fun r => if r.1 = true then f1 σ r.2 else f2 σ r.2 := rfl
@[simp] theorem ev_fDrop : fDrop fa σ g = (fa σ g).bind fun r => some (.nx, σ, r.2) := rfl
@[simp] theorem ev_fAsg : fAsg fa t σ g = (fa σ g).bind fun r => (t r.1 σ r.2).bind fun q => some (.nx, q.1, q.2) := rfl
@[simp] theorem ev_gN {i : Nat} {d : D} : gN i d σ g = some (σ.set i (some d), g) := rfl
@[simp] theorem ev_gNils : gNils [] σ g = some (σ, g) := rfl
@[simp] theorem ev_gConss {d : D} {r : List D} : gConss t ts (d :: r) σ g = (t d σ g).bind fun q => ts r q.1 q.2 := rfl
@[simp] theorem ev_gT {n : Nat} {xs : List D} : gT n ts (.tup xs) σ g = if xs.length = n then ts xs σ g else none := rfl
@[simp] theorem ev_gIx {v : D} : gIx fa fb v σ g = (fa σ g).bind fun r => (fb σ r.2).bind fun q => (putD r.1 q.1 v q.2).map fun g' => (σ, g') := rfl
@[simp] theorem ev_fCall : fCall fn fr σ g = (fr σ g).bind fun r => fn r.1 r.2 := rfl
@[simp] theorem ev_fIsi {T : Ty} : fIsi T fa σ g = (fa σ g).bind fun r => some (.bl (isI T r.1), r.2) := rfl
@[simp] theorem ev_fFor {i : FI} : fFor i t f1 σ g = (i σ g).bind fun r => forL t f1 r.1 σ r.2 := rfl
@[simp] theorem ev_iSeq : iSeq fa σ g = (fa σ g).bind fun r => match r.1 with | .tup xs => some (xs, r.2) | .lst xs => some (xs, r.2) | _ => none := rfl
@[simp] theorem ev_iSeqT : iSeqT fa σ g = (fa σ g).bind fun r => match r.1 with | .tup xs => some (xs, r.2) | _ => none := rfl
@[simp] theorem ev_iSeqL : iSeqL fa σ g = (fa σ g).bind fun r => match r.1 with | .lst xs => some (xs, r.2) | _ => none := rfl
@[simp] theorem ev_fComp {mk : List D → G → Option (D × G)} {fi : FI} {fr : List (Option Nat)} {c : FT} : fComp mk fi fr t c fa σ g = (fi σ g).bind fun r => if szOk r.1.length = true then (compL t c fa r.1 (subS fr σ) r.2).bind fun q => mk q.1 q.2 else none := rfl
@[simp] theorem ev_cLst {ds : List D} : cLst ds g = some (.lst ds, g) := rfl
@[simp] theorem ev_fTrue : fTrue σ g = some (true, g) := rfl
@[simp] theorem ev_iOp {c : Int → Int → Bool} {f : Int → Int → Int} {i j : Int} : iOp c f (.int i) (.int j) g = if c i j = true then some (.int (f i j), g) else none := rfl
@[simp] theorem ev_okAny {i j : Int} : okAny i j = true := rfl
@[simp] theorem ev_oLt {i j : Int} : oLt (.int i) (.int j) g = some (.bl (decide (i < j)), g) := rfl
@[simp] theorem ev_oLe {i j : Int} : oLe (.int i) (.int j) g = some (.bl (decide (i ≤ j)), g) := rfl
@[simp] theorem ev_oGt {i j : Int} : oGt (.int i) (.int j) g = some (.bl (decide (j < i)), g) := rfl
@[simp] theorem ev_oGe {i j : Int} : oGe (.int i) (.int j) g = some (.bl (decide (j ≤ i)), g) := rfl
@[simp] theorem ev_uNeg {i : Int} : uNeg (.int i) g = some (.int (-i), g) := rfl
@[simp] theorem ev_oAdd {i j : Int} : oAdd (.int i) (.int j) g = some (.int (i + j), g) := rfl
@[simp] theorem ev_oMul {i j : Int} : oMul (.int i) (.int j) g = if okMul i j = true then some (.int (i * j), g) else none := rfl
@[simp] theorem ev_oIx {d : D} {i : Int} : oIx d (.int i) g = (seqOf d g).bind fun xs => (atI xs i).map fun e => (e, g) := rfl
@[simp] theorem ev_seqT {xs : List D} : seqOf (.tup xs) g = some xs := rfl
@[simp] theorem ev_seqL {xs : List D} : seqOf (.lst xs) g = some xs := rfl
@[simp] theorem ev_seqR {n : Nat} : seqOf (.ref n) g = g[n]? := rfl
@[simp] theorem ev_bLen {d : D} : bLen [d] g = (seqOf d g).map fun xs => (.int xs.length, g) := rfl
@[simp] theorem ev_bMax {i j : Int} : bMax [.int i, .int j] g = some (.int (if j > i then j else i), g) := rfl
@[simp] theorem ev_bMin {i j : Int} : bMin [.int i, .int j] g = some (.int (if j < i then j else i), g) := rfl
@[simp] theorem ev_bIntB {k : Bool} : bInt [.bl k] g = some (.int (if k then 1 else 0), g) := rfl
@[simp] theorem ev_bIntI {i : Int} : bInt [.int i] g = some (.int i, g) := rfl
@[simp] theorem ev_bTup {d : D} : bTup [d] g = (seqOf d g).bind fun xs => if szOk xs.length = true then some (.tup xs, g) else none := rfl
@[simp] theorem ev_bLst {d : D} : bLst [d] g = (seqOf d g).bind fun xs => if szOk xs.length = true then some (.lst xs, g) else none := rfl
@[simp] theorem ev_bAll {xs : List D} : bAll [.lst xs] g = (bools xs).map fun bs => (.bl (bs.all id), g) := rfl
@[simp] theorem ev_oEqI {i j : Int} : oEq (.int i) (.int j) g = some (.bl (i == j), g) := rfl
@[simp] theorem ev_oEqB {i j : Bool} : oEq (.bl i) (.bl j) g = some (.bl (i == j), g) := rfl
@[simp] theorem ev_oEqS {i j : Str} : oEq (.str i) (.str j) g = some (.bl (i == j), g) := rfl
@[simp] theorem ev_oNeI {i j : Int} : oNe (.int i) (.int j) g = some (.bl (!(i == j)), g) := rfl
@[simp] theorem ev_oNeB {i j : Bool} : oNe (.bl i) (.bl j) g = some (.bl (!(i == j)), g) := rfl
@[simp] theorem ev_oIsN {d : D} : oIsN d .non g = some (.bl (isNon d), g) := rfl
@[simp] theorem ev_oNotN {d : D} : oNotN d .non g = some (.bl (!isNon d), g) := rfl
theorem ev_run {nN nP : Nat} {ds : List D} {b : FS} {σ' : Sg} {d : D} {g' : G} (hl : ds.length = nP) (h : b (ds.map some ++ List.replicate (nN - nP) none) g = some (.rt d, σ', g')) (hg : g'.length = g.length) : runFn false nN nP b ds g = some (d, g') := by
  unfold runFn
  rw [if_pos hl, h]
  have e : settle g.length d g' = some (d, g') := by
    unfold settle
    rw [if_pos hg]
  simpa using e
theorem ev_runK {nN nP : Nat} {ds : List D} {b : FS} {σ' : Sg} {d : D} {g' : G} (hl : ds.length = nP) (h : b (ds.map some ++ List.replicate (nN - nP) none) g = some (.rt d, σ', g')) : runFn true nN nP b ds g = some (d, g') := by
  unfold runFn
  rw [if_pos hl, h]
  rfl
end
theorem bools_map {α : Type} (f : α → Bool) : ∀ xs : List α, bools (xs.map fun x => D.bl (f x)) = some (xs.map f)
  | [] => rfl
  | x :: xs => by simp only [List.map_cons, bools, bools_map f xs, Option.map_some]
@[simp] theorem subS_nil {α : Type} {σ : List (Option α)} : subS [] σ = [] := rfl
@[simp] theorem subS_none {α : Type} {σ : List (Option α)} {fr : List (Option Nat)} : subS (none :: fr) σ = none :: subS fr σ := rfl
@[simp] theorem subS_some {α : Type} {σ : List (Option α)} {fr : List (Option Nat)} {i : Nat} : subS (some i :: fr) σ = (σ[i]?).join :: subS fr σ := rfl
end L3
namespace L3
open PySem PySem.Spec PyProof.Rows L2
noncomputable def isBl (c : Bool) : D → Bool
  | .bl b => b == c
  | _ => false
noncomputable def isLit (d1 d2 : D) : Option Bool := match d2 with
  | .non => some (isNon d1)
  | .bl c => some (isBl c d1)
  | _ => none
noncomputable def oIs (d1 d2 : D) (g : G) : Option (D × G) := (isLit d1 d2).map fun b => (.bl b, g)
noncomputable def oIsnt (d1 d2 : D) (g : G) : Option (D × G) := (isLit d1 d2).map fun b => (.bl (!b), g)
section
variable {X : Cx}
theorem rel_bl {K H ι d v u c} (r : Rel K H ι d v) (rx : RelV v u) : (u == Value.bool c) = isBl c d ∧ PySem.plainIs u (.bool c) = true := by
  cases d with
  | non => simp only [Rel] at r; subst r; cases rx; exact ⟨rfl, rfl⟩
  | bl b => simp only [Rel] at r; subst r; cases rx; exact ⟨by cases b <;> cases c <;> rfl, rfl⟩
  | int _ => simp only [Rel] at r; subst r; obtain ⟨t, rfl⟩ := rx; exact ⟨rfl, rfl⟩
  | str _ => simp only [Rel] at r; subst r; obtain ⟨t, rfl⟩ := rx; exact ⟨rfl, rfl⟩
  | tup _ => simp only [Rel] at r; obtain ⟨a, vs, rfl, _⟩ := r; cases rx; exact ⟨rfl, rfl⟩
  | lst _ => simp only [Rel] at r; obtain ⟨a, vs, rfl, _⟩ := r; cases rx; exact ⟨rfl, rfl⟩
  | edc => simp only [Rel] at r; obtain ⟨a, rfl, _⟩ := r; cases rx; exact ⟨rfl, rfl⟩
  | ref _ => simp only [Rel] at r; obtain ⟨a, rfl, _⟩ := r; cases rx; exact ⟨rfl, rfl⟩
theorem od_is : OpR X (compareOp .Is) (rD2 X.K oIs) := by
  intro pins s σ H x y v u Q I rx ry q
  obtain ⟨ι, g, d1, d2, d, g', G0, r1, r2, q, p⟩ := q
  cases d2 with
  | non => exact od_isN pins s σ H x y v u Q I rx ry ⟨ι, g, d1, .non, d, g', G0, r1, r2, q, p⟩
  | bl c =>
    simp only [Rel] at r2; subst r2; cases ry
    simp only [oIs, isLit, Option.map_some] at q
    cases q
    obtain ⟨e, z⟩ := rel_bl (c := c) r1 rx
    refine wpAny_is_plain z ?_
    rw [e]
    exact ⟨.bl _, H, I, rfl, p H ι _ Ext.refl G0 (by simp [Rel])⟩
  | _ => cases q
theorem od_isnt : OpR X (compareOp .IsNot) (rD2 X.K oIsnt) := by
  intro pins s σ H x y v u Q I rx ry q
  obtain ⟨ι, g, d1, d2, d, g', G0, r1, r2, q, p⟩ := q
  cases d2 with
  | non => exact od_notN pins s σ H x y v u Q I rx ry ⟨ι, g, d1, .non, d, g', G0, r1, r2, q, p⟩
  | bl c =>
    simp only [Rel] at r2; subst r2; cases ry
    simp only [oIsnt, isLit, Option.map_some] at q
    cases q
    obtain ⟨e, z⟩ := rel_bl (c := c) r1 rx
    refine wpAny_isNot_plain z ?_
    rw [e]
    exact ⟨.bl _, H, I, rfl, p H ι _ Ext.refl G0 (by simp [Rel])⟩
  | _ => cases q
end
@[simp] theorem ev_oIs {d1 d2 : D} {g : G} : oIs d1 d2 g = (isLit d1 d2).map fun b => (.bl b, g) := rfl
@[simp] theorem ev_oIsnt {d1 d2 : D} {g : G} : oIsnt d1 d2 g = (isLit d1 d2).map fun b => (.bl (!b), g) := rfl
@[simp] theorem ev_isLitN {d1 : D} : isLit d1 .non = some (isNon d1) := rfl
@[simp] theorem ev_isLitB {d : D} {c : Bool} : isLit d (.bl c) = some (isBl c d) := rfl
@[simp] theorem ev_isBl {b c : Bool} : isBl c (.bl b) = (b == c) := rfl
end L3
namespace L3
open PySem PySem.Spec PyProof.Rows L2
noncomputable def Ix.none (ι : Ix) : Ix := ⟨[], ι.ix ++ ι.hd⟩
mutual
theorem Rel.toN {K H ι} : ∀ (d : D) {v : V}, noR 0 d = true → Rel K H ι d v → Rel K H (Ix.none ι) d v
  | .non, v, _, h => by simpa [Rel] using h
  | .bl _, v, _, h => by simpa [Rel] using h
  | .int _, v, _, h => by simpa [Rel] using h
  | .str _, v, _, h => by simpa [Rel] using h
  | .tup xs, v, z, h => by
    simp only [Rel] at h ⊢
    obtain ⟨a, vs, e1, hq, hr⟩ := h
    refine ⟨a, vs, e1, ?_, RelL.toN xs z hr⟩
    rcases hq with ⟨hq, hn⟩ | hq
    · exact .inl ⟨hq, by simp [Ix.none]⟩
    · exact .inr hq
  | .lst xs, v, z, h => by
    simp only [Rel] at h ⊢
    obtain ⟨a, vs, e1, hq, hr⟩ := h
    refine ⟨a, vs, e1, ?_, RelL.toN xs z hr⟩
    rcases hq with ⟨hq, hn, hh⟩ | hq
    · exact .inl ⟨hq, by simp [Ix.none], fun m => (List.mem_append.mp m).elim hn hh⟩
    · exact .inr hq
  | .edc, v, _, h => by
    simp only [Rel] at h ⊢
    obtain ⟨a, e1, hq, hr⟩ := h
    exact ⟨a, e1, hq, by simp [Ix.none]⟩
  | .ref k, v, z, h => by simp [noR] at z
theorem RelL.toN {K H ι} : ∀ (ds : List D) {vs : List V}, noRs 0 ds = true → RelL K H ι ds vs → RelL K H (Ix.none ι) ds vs
  | [], vs, _, h => by simpa [RelL] using h
  | d :: ds, vs, z, h => by
    simp only [RelL] at h ⊢
    simp only [noRs, Bool.and_eq_true] at z
    obtain ⟨v, vr, e1, hq, hr⟩ := h
    exact ⟨v, vr, e1, Rel.toN d z.1 hq, RelL.toN ds z.2 hr⟩
end
mutual
theorem Rel.ofN {K H ι ι'} (hh : ι'.hd = ι.ix ++ ι.hd) (hl : ∀ a ∈ ι.ix, ∃ vs, H a = some (.lst vs)) : ∀ (d : D) {v : V}, noR 0 d = true → Rel K H ι' d v → Rel K H ι d v
  | .non, v, _, h => by simpa [Rel] using h
  | .bl _, v, _, h => by simpa [Rel] using h
  | .int _, v, _, h => by simpa [Rel] using h
  | .str _, v, _, h => by simpa [Rel] using h
  | .tup xs, v, z, h => by
    simp only [Rel] at h ⊢
    obtain ⟨a, vs, e1, hq, hr⟩ := h
    refine ⟨a, vs, e1, ?_, RelL.ofN hh hl xs z hr⟩
    rcases hq with ⟨hq, hn⟩ | hq
    · refine .inl ⟨hq, fun m => ?_⟩
      obtain ⟨us, e⟩ := hl a m
      rcases hq with hq | ⟨o, hq⟩ <;> rw [e] at hq <;> cases hq
    · exact .inr hq
  | .lst xs, v, z, h => by
    simp only [Rel] at h ⊢
    obtain ⟨a, vs, e1, hq, hr⟩ := h
    refine ⟨a, vs, e1, ?_, RelL.ofN hh hl xs z hr⟩
    rcases hq with ⟨hq, hn, hk⟩ | hq
    · rw [hh] at hk
      exact .inl ⟨hq, fun m => hk (List.mem_append.mpr (.inl m)), fun m => hk (List.mem_append.mpr (.inr m))⟩
    · exact .inr hq
  | .edc, v, _, h => by
    simp only [Rel] at h ⊢
    obtain ⟨a, e1, hq, hr⟩ := h
    refine ⟨a, e1, hq, fun m => ?_⟩
    obtain ⟨us, e⟩ := hl a m
    rw [e] at hq; cases hq
  | .ref k, v, z, h => by simp [noR] at z
theorem RelL.ofN {K H ι ι'} (hh : ι'.hd = ι.ix ++ ι.hd) (hl : ∀ a ∈ ι.ix, ∃ vs, H a = some (.lst vs)) : ∀ (ds : List D) {vs : List V}, noRs 0 ds = true → RelL K H ι' ds vs → RelL K H ι ds vs
  | [], vs, _, h => by simpa [RelL] using h
  | d :: ds, vs, z, h => by
    simp only [RelL] at h ⊢
    simp only [noRs, Bool.and_eq_true] at z
    obtain ⟨v, vr, e1, hq, hr⟩ := h
    exact ⟨v, vr, e1, Rel.ofN hh hl d z.1 hq, RelL.ofN hh hl ds z.2 hr⟩
end
theorem RelG.lst {K H ι g} (h : RelG K H ι g) {a : Addr} (ha : a ∈ ι.ix) : ∃ vs, H a = some (.lst vs) := by
  obtain ⟨i, hi, e⟩ := List.mem_iff_getElem.mp ha
  have hg : i < g.length := by rw [← h.len]; exact hi
  obtain ⟨b, vs, hb, h1, _⟩ := h.at_ i _ (List.getElem?_eq_getElem hg)
  rw [List.getElem?_eq_getElem hi, e] at hb
  cases hb
  exact ⟨vs, h1⟩
noncomputable def pureFn (fn : Fn) : Fn := fun ds g => if noRs 0 ds = true then (fn ds []).bind fun r => if noR 0 r.1 = true then some (r.1, g) else none else none
theorem pureFn_some {fn : Fn} {ds g d g'} (h : pureFn fn ds g = some (d, g')) : noRs 0 ds = true ∧ (∃ gx, fn ds [] = some (d, gx)) ∧ noR 0 d = true ∧ g' = g := by
  unfold pureFn at h
  split at h
  · rename_i z
    obtain ⟨⟨d1, g1⟩, h1, h⟩ := bind_some h
    split at h
    · rename_i z2
      cases h
      exact ⟨z, ⟨g1, h1⟩, z2, rfl⟩
    · cases h
  · cases h
theorem fn_pure {P : Program} {w : World} {K : PySem.W.Frag} {mg : Str → Option Value} {base : Heap} {k n f fd ps} {fn : Fn} (F : FnOk P w K mg base CX0 k f fd ps (spD K n fn)) : FnOk P w K mg base CX0 k f fd ps (spD K n (pureFn fn)) :=
  FnOk.imp F fun vs H Q E ⟨hl, ι, g, ds, d, g', G0, r, h, p⟩ => by
    obtain ⟨z, ⟨gx, hx⟩, z2, rfl⟩ := pureFn_some h
    refine ⟨hl, Ix.none ι, [], ds, d, gx, ⟨List.nodup_nil, rfl, fun b hb => ⟨by simp [Ix.none], ?_⟩, fun i xs q => by simp at q⟩, RelL.toN ds z r, hx, fun H' ι' v e G1 rv => ?_⟩
    · rcases List.mem_append.mp hb with m | m
      · exact G0.trk m
      · exact (G0.hid b m).2
    · have same : ∀ a ∈ ι.ix, H' a = H a := fun a ha => by
        obtain ⟨vs, ev⟩ := G0.lst ha
        rw [ev]
        exact e.same a _ ev (by simp [Ix.none])
      have e0 : Ext H ι H' ι := ⟨fun a o q _ => e.same a o q (by simp [Ix.none]), e.there, ⟨[], by simp, fun _ q => by simp at q⟩, rfl⟩
      refine p H' ι v e0 (G0.ext e0 same) (Rel.ofN e.hid (fun a ha => ?_) d z2 rv)
      obtain ⟨vs, ev⟩ := G0.lst ha
      exact ⟨vs, by rw [same a ha]; exact ev⟩
theorem pureFn_len {fn : Fn} {n : Nat} (h : ∀ ds g r, fn ds g = some r → ds.length = n) : ∀ ds g r, pureFn fn ds g = some r → ds.length = n := fun ds g r q => by
  obtain ⟨_, ⟨gx, hx⟩, _⟩ := pureFn_some (d := r.1) (g' := r.2) q
  exact h _ _ _ hx
end L3
namespace L3
open PySem L2
noncomputable def wp {α : Type} (o : Option α) (Q : α → Prop) : Prop := ∃ a, o = some a ∧ Q a
section
variable {α β : Type} {o : Option α} {Q R : α → Prop}
@[simp] theorem wp_some {a : α} : wp (some a) Q = Q a := by simp [wp]
@[simp] theorem wp_none : wp (none : Option α) Q = False := by simp [wp]
@[simp] theorem wp_bind {f : α → Option β} {Q : β → Prop} : wp (o.bind f) Q = wp o fun a => wp (f a) Q := by
  cases o <;> simp [wp]
@[simp] theorem wp_map {f : α → β} {Q : β → Prop} : wp (o.map f) Q = wp o fun a => Q (f a) := by
  cases o <;> simp [wp]
theorem wp_mono (h : wp o R) (i : ∀ a, R a → Q a) : wp o Q := let ⟨a, e, r⟩ := h; ⟨a, e, i a r⟩
end
@[simp] theorem wp_asB {o : Option (D × G)} {Q : Bool × G → Prop} : wp (asB o) Q = wp o fun r => ∃ b, r.1 = .bl b ∧ Q (b, r.2) := by
  cases o with
  | none => simp [asB]
  | some r =>
    obtain ⟨d, g⟩ := r
    cases d with
    | bl b => cases b <;> simp [asB]
    | _ => simp [asB]
section
variable {σ : Sg} {g : G} {fa : FE} {fl fh : FO}
@[simp] theorem ev_oAddT {xs ys : List D} : oAdd (.tup xs) (.tup ys) g = if szOk (xs.length + ys.length) = true then some (.tup (xs ++ ys), g) else none := rfl
@[simp] theorem ev_oAddL {xs ys : List D} : oAdd (.lst xs) (.lst ys) g = if szOk (xs.length + ys.length) = true then some (.lst (xs ++ ys), g) else none := rfl
@[simp] theorem ev_oAddS {x y : Str} : oAdd (.str x) (.str y) g = if szOk (x.length + y.length) = true then some (.str (x ++ y), g) else none := rfl
@[simp] theorem ev_fSl : fSl fa fl fh σ g = (fa σ g).bind fun r => (fl σ r.2).bind fun l => (fh σ l.2).bind fun h => oSl r.1 l.1 h.1 h.2 := rfl
@[simp] theorem ev_fNoP : fNoP σ g = some (none, g) := rfl
@[simp] theorem ev_fPart : fPart fa σ g = (fa σ g).bind fun r => match r.1 with | .int i => some (some i, r.2) | _ => none := rfl
end
theorem wp_forL {t : FG} {b : FS} {Q : F × Sg × G → Prop} (I : Nat → Sg → G → Prop) : ∀ (ds : List D) (i : Nat) (σ : Sg) (g : G), I i σ g →
    (∀ (j : Nat) (d : D) σ g, ds[j]? = some d → I (i + j) σ g → wp (t d σ g) fun q => wp (b q.1 q.2) fun r => match r.1 with
      | .nx => I (i + j + 1) r.2.1 r.2.2
      | .ct => I (i + j + 1) r.2.1 r.2.2
      | .bk => Q (.nx, r.2.1, r.2.2)
      | .rt d => Q (.rt d, r.2.1, r.2.2)) → (∀ σ g, I (i + ds.length) σ g → Q (.nx, σ, g)) → wp (forL t b ds σ g) Q
  | [], i, σ, g, hi, _, he => by simp only [forL, wp_some]; exact he σ g hi
  | d :: ds, i, σ, g, hi, hs, he => by
    simp only [forL, wp_bind]
    refine wp_mono (hs 0 d σ g rfl hi) fun q hq => wp_mono hq fun r hr => ?_
    have go : I (i + 0 + 1) r.2.1 r.2.2 → wp (forL t b ds r.2.1 r.2.2) Q := fun z =>
      wp_forL I ds (i + 1) _ _ z (fun j d σ g e h => by
        have q := hs (j + 1) d σ g (by simpa using e) (by rw [show i + (j + 1) = i + 1 + j by omega]; exact h)
        rw [show i + (j + 1) + 1 = i + 1 + j + 1 by omega] at q
        exact q) fun σ g h => he σ g (by rw [List.length_cons, show i + (ds.length + 1) = i + 1 + ds.length by omega]; exact h)
    obtain ⟨r1, r2⟩ := r
    cases r1 with
    | nx => exact go hr
    | ct => exact go hr
    | bk => simp only [wp_some]; exact hr
    | rt d => simp only [wp_some]; exact hr
theorem wp_compL {t : FG} {c : FT} {e : FE} {Q : List D × G → Prop} (I : Nat → List D → Sg → G → Prop) : ∀ (ds : List D) (i : Nat) (σ : Sg) (g : G) (acc : List D), I i acc σ g →
    (∀ (j : Nat) (d : D) acc σ g, ds[j]? = some d → I (i + j) acc σ g → wp (t d σ g) fun q => wp (c q.1 q.2) fun k => if k.1 = true then wp (e q.1 k.2) fun r => I (i + j + 1) (acc ++ [r.1]) q.1 r.2 else I (i + j + 1) acc q.1 k.2) →
    (∀ xs σ g, I (i + ds.length) (acc ++ xs) σ g → Q (xs, g)) → wp (compL t c e ds σ g) Q
  | [], i, σ, g, acc, hi, _, he => by simp only [compL, wp_some]; exact he [] σ g (by simpa using hi)
  | d :: ds, i, σ, g, acc, hi, hs, he => by
    simp only [compL, wp_bind]
    refine wp_mono (hs 0 d acc σ g rfl hi) fun q hq => wp_mono hq fun k hk => ?_
    have go : ∀ (a : List D) (s : Sg) (h : G) (R : List D × G → Prop), I (i + 1) a s h → (∀ xs σ g, I (i + 1 + ds.length) (a ++ xs) σ g → R (xs, g)) → wp (compL t c e ds s h) R := fun a s h R z he =>
      wp_compL I ds (i + 1) s h a z (fun j d acc σ g e h => by
        have q := hs (j + 1) d acc σ g (by simpa using e) (by rw [show i + (j + 1) = i + 1 + j by omega]; exact h)
        rw [show i + (j + 1) + 1 = i + 1 + j + 1 by omega] at q
        exact q) he
    have hl : i + (d :: ds).length = i + 1 + ds.length := by rw [List.length_cons]; omega
    rw [hl] at he
    by_cases hc : k.1 = true
    · rw [if_pos hc] at hk ⊢
      simp only [wp_bind]
      refine wp_mono hk fun r hr => ?_
      refine go (acc ++ [r.1]) q.1 r.2 _ hr fun xs σ g h => ?_
      simp only [wp_some]
      exact he (r.1 :: xs) σ g (by simpa using h)
    · rw [if_neg hc] at hk ⊢
      exact go acc q.1 k.2 _ hk he
theorem wp_run {nN nP : Nat} {b : FS} {ds : List D} {g : G} {Q : D × G → Prop} (hl : ds.length = nP) (h : wp (b (ds.map some ++ List.replicate (nN - nP) none) g) fun r => match r.1 with
    | .rt d => r.2.2.length = g.length ∧ Q (d, r.2.2)
    | .nx => r.2.2.length = g.length ∧ Q (.non, r.2.2)
    | _ => False) : wp (runFn false nN nP b ds g) Q := by
  obtain ⟨⟨r, σ, g'⟩, e, q⟩ := h
  unfold runFn
  rw [if_pos hl, e]
  cases r with
  | rt d =>
    obtain ⟨q1, q2⟩ := q
    dsimp only at q1 q2
    refine ⟨_, ?_, q2⟩
    simp [settle, q1]
  | nx =>
    obtain ⟨q1, q2⟩ := q
    dsimp only at q1 q2
    refine ⟨_, ?_, q2⟩
    simp [settle, q1]
  | bk => exact q.elim
  | ct => exact q.elim
theorem wp_runS {nN nP : Nat} {b : FS} {ds : List D} {g : G} {Q : D × G → Prop} (hl : ds.length = nP) (h : wp (b (ds.map some ++ List.replicate (nN - nP) none) g) fun r => match r.1 with
    | .rt d => noR g.length d = true ∧ (r.2.2.take g.length).all (noRs g.length) = true ∧ g.length ≤ r.2.2.length ∧ Q (d, r.2.2.take g.length)
    | .nx => (r.2.2.take g.length).all (noRs g.length) = true ∧ g.length ≤ r.2.2.length ∧ Q (.non, r.2.2.take g.length)
    | _ => False) : wp (runFn false nN nP b ds g) Q := by
  obtain ⟨⟨r, σ, g'⟩, e, q⟩ := h
  unfold runFn
  rw [if_pos hl, e]
  have fin : ∀ d, noR g.length d = true → (g'.take g.length).all (noRs g.length) = true → g.length ≤ g'.length → Q (d, g'.take g.length) → wp (settle g.length d g') Q := fun d z1 z2 z3 z4 => by
    by_cases hg : g'.length = g.length
    · rw [List.take_of_length_le (by omega)] at z4
      exact ⟨_, by unfold settle; rw [if_pos hg], z4⟩
    · refine ⟨_, ?_, z4⟩
      unfold settle
      rw [if_neg hg, if_pos z2]
      cases d with
      | ref k =>
        have z : k < g.length := by simpa [noR] using z1
        simp only [if_pos z]
      | _ => simp only [if_pos z1]
  cases r with
  | rt d =>
    obtain ⟨q1, q2, q3, q4⟩ := q
    exact fin d q1 q2 q3 q4
  | nx =>
    obtain ⟨q2, q3, q4⟩ := q
    exact fin .non rfl q2 q3 q4
  | bk => exact q.elim
  | ct => exact q.elim
theorem pure_eq {fn : Fn} {ds : List D} {d : D} {gx : G} (h1 : noRs 0 ds = true) (h : fn ds [] = some (d, gx)) (h2 : noR 0 d = true) (g : G) : pureFn fn ds g = some (d, g) := by
  unfold pureFn
  rw [if_pos h1, h]
  exact if_pos h2
end L3
namespace L3
open PySem PySem.Spec PyProof.Rows L2
open SeqAt
theorem wpAny_forIn_rng {M : Model} {A : Around} {E : Value → Shared → Prop} {s : Shared} {β : Type} (f : Nat → β → Sem (ForInStep β)) (I : List Nat → β → Shared → Prop) (Q : β → Shared → Prop) {lo hi : Nat} {b : β}
    (turn : ∀ x rest b s, I (x :: rest) b s → wpAny M A (f x b) (fun r s' => match r with | .yield b' => I rest b' s' | .done b' => Q b' s') E s)
    (fin : ∀ b s, I [] b s → Q b s) (h : I (List.range' lo (hi - lo)) b s) : wpAny M A (forIn [lo:hi] b f) Q E s := by
  rw [Std.Legacy.Range.forIn_eq_forIn_range']
  refine wpAny_forIn_list f I Q turn fin _ b ?_
  simpa [Std.Legacy.Range.size] using h
theorem tuple_indexAt (l : Addr) (items : Array Value) (n : Nat) (dd : Option Addr) (sl : Array (Option Value)) (x : Value) (e : Value → Bool) (j : Nat) (hj : j < items.size)
    (hit : e items[j] = true) (hno : ∀ m (hm : m < items.size), m < j → e items[m] = false) :
    Meets (Builtin.«tuple.index» ⟨[.ref l, x], []⟩)
      (fun A R s => s.heap.get? l = some { cls := .type "tuple", dict := dd, data := .seq items n, slots := sl } ∧ (∀ y, y ∈ items → EqAt A.in1 s y x (e y)) ∧ R (.ok (.ret (.int j s.toks))) { s with toks := s.toks + 1 }) :=
  .of_wp fun prog w A R s h => by
    obtain ⟨hp, g, d, tk, os⟩ := s; obtain ⟨hl, he, h⟩ := h
    wp_walk using wpAny_loadPart' hl, wpAny_forIn_rng _ (fun rest b s' => b.1 = none ∧ s' = ⟨hp, g, d, tk, os⟩ ∧ ∃ i, rest = List.range' i (items.size - i) ∧ i ≤ j) _
    case turn =>
      rintro y rest b s' ⟨hb, rfl, i, hr, hij⟩
      have hlt : i < items.size := by omega
      have e1 : List.range' i (items.size - i) = i :: List.range' (i + 1) (items.size - (i + 1)) := by
        rw [show items.size - i = (items.size - (i + 1)) + 1 by omega, List.range'_succ]
      rw [e1] at hr
      injection hr with h1 h2
      subst h1 h2
      have hg : items[y]? = some items[y] := by simp [hlt]
      rw [hg]
      refine wpAny_bind (he _ (Array.getElem_mem hlt) prog w _ _ ?_)
      by_cases hy : y = j
      · subst hy
        rw [hit]
        wp_walk
        exact ⟨_, rfl, h⟩
      · rw [hno y hlt (by omega)]
        wp_walk
        exact ⟨rfl, rfl, y + 1, rfl, by omega⟩
    case fin =>
      rintro ⟨b1, b2⟩ s' ⟨hb, rfl, i, hr, hij⟩
      have : (List.range' i (items.size - i)).length = 0 := by rw [← hr]; rfl
      rw [List.length_range'] at this
      omega
    case h => exact ⟨rfl, rfl, 0, by simp, Nat.zero_le _⟩
noncomputable def flt : D → Bool
  | .non => true
  | .bl _ => true
  | .int _ => true
  | .str _ => true
  | _ => false
noncomputable def toV : D → V
  | .bl b => .bl b
  | .int i => .int i
  | .str x => .str x
  | _ => .non
theorem flt_rel {K H ι d v} (h : flt d = true) (r : Rel K H ι d v) : v = toV d ∧ flatV v = true := by
  cases d with
  | non => simp only [Rel] at r; subst r; exact ⟨rfl, rfl⟩
  | bl _ => simp only [Rel] at r; subst r; exact ⟨rfl, rfl⟩
  | int _ => simp only [Rel] at r; subst r; exact ⟨rfl, rfl⟩
  | str _ => simp only [Rel] at r; subst r; exact ⟨rfl, rfl⟩
  | _ => cases h
theorem rel_flt {K H ι d} (h : flt d = true) : Rel K H ι d (toV d) := by
  cases d with
  | non => simp [Rel, toV]
  | bl _ => simp [Rel, toV]
  | int _ => simp [Rel, toV]
  | str _ => simp [Rel, toV]
  | _ => cases h
theorem flt_rels {K H ι} : ∀ {xs : List D} {vs : List V}, xs.all flt = true → RelL K H ι xs vs → vs = xs.map toV ∧ vs.all flatV = true
  | [], vs, _, r => by simp only [RelL] at r; subst r; exact ⟨rfl, rfl⟩
  | d :: xs, vs, h, r => by
    simp only [RelL] at r
    obtain ⟨v, vr, rfl, r1, r2⟩ := r
    rw [List.all_cons, Bool.and_eq_true] at h
    obtain ⟨e1, f1⟩ := flt_rel h.1 r1
    obtain ⟨e2, f2⟩ := flt_rels h.2 r2
    subst e1 e2
    exact ⟨rfl, by rw [List.all_cons, f1, f2]; rfl⟩
theorem rels_flt {K H ι} : ∀ {xs : List D}, xs.all flt = true → RelL K H ι xs (xs.map toV)
  | [], _ => by simp [RelL]
  | d :: xs, h => by
    rw [List.all_cons, Bool.and_eq_true] at h
    simp only [List.map_cons, RelL]
    exact ⟨_, _, rfl, rel_flt h.1, rels_flt h.2⟩
theorem eqV_D {a b : D} (ha : flt a = true) (hb : flt b = true) : eqV (toV a) (toV b) = eqD a b := by
  cases a <;> cases b <;> first | (simp [toV, eqV, eqD]; done) | (simp [flt] at ha; done) | (simp [flt] at hb; done)
noncomputable def inD (d : D) (xs : List D) : Bool := xs.any fun y => eqD y d
noncomputable def oIn (d1 d2 : D) (g : G) : Option (D × G) := (seqOf d2 g).bind fun xs => if (flt d1 && xs.all flt) = true then some (.bl (inD d1 xs), g) else none
noncomputable def oNotIn (d1 d2 : D) (g : G) : Option (D × G) := (seqOf d2 g).bind fun xs => if (flt d1 && xs.all flt) = true then some (.bl (!inD d1 xs), g) else none
section
variable {X : Cx}
end
noncomputable def KRel (K : PySem.W.Frag) (d : D) (v : V) : Prop := (flt d = true ∧ v = toV d) ∨
  ∃ xs a o its n, d = .tup xs ∧ xs.all flt = true ∧ v = .ref a ∧ K.lookup a = some o ∧ o.cls = .type "tuple" ∧ o.dict = none ∧ o.data = .seq its n ∧ its.size ≤ sizeLine ∧ Vals (xs.map toV) its.toList
noncomputable def EntsR (w : World) (K : PySem.W.Frag) : List DictEntry → List (Str × D) → Prop
  | [], tbl => tbl = []
  | e :: es, tbl => ∃ x d rest, tbl = (x, d) :: rest ∧ (∃ t, e.key = .str x t) ∧ e.hash = hashStr w x ∧ (∃ v, RelV v e.val ∧ KRel K d v) ∧ EntsR w K es rest
structure DctAt (w : World) (K : PySem.W.Frag) (a : Addr) (tbl : List (Str × D)) : Prop where
  ex : ∃ o es ep, K.lookup a = some o ∧ o.ExactDict ∧ o.data = .dict es ep ∧ EntsR w K es.toList tbl
  sys : (a == sysModules) = false
noncomputable def tGet (tbl : List (Str × D)) (x : Str) : Option D := (tbl.find? fun p => decide (p.1 = x)).map (·.2)
theorem EntsR.keys {P : Program} {w : World} {K : PySem.W.Frag} : ∀ {es : List DictEntry} {tbl : List (Str × D)}, EntsR w K es tbl → ∀ e ∈ es, ∃ k, (mixKind P w).is k e.key = true ∧ e.hash = (mixKind P w).hash k
  | [], _, _, e, he => nomatch he
  | e0 :: es, tbl, h, e, he => by
    obtain ⟨x, d, rest, rfl, ⟨t, hk⟩, hh, _, hr⟩ := h
    rcases List.mem_cons.mp he with rfl | he
    · exact ⟨.inr x, by rw [hk]; exact mixKind_str P w x t, hh⟩
    · exact hr.keys e he
theorem is_str {P : Program} {w : World} {x y : Str} {t : Tok} : (mixKind P w).is (.inr x) (.str y t) = decide (y = x) := by
  show Value.isStrOf x (.str y t) = _
  by_cases h : y = x
  · subst h; simp [Value.isStrOf]
  · simp [Value.isStrOf, h, Ne.symm h]
theorem EntsR.find {P : Program} {w : World} {K : PySem.W.Frag} {x : Str} : ∀ {es : List DictEntry} {tbl : List (Str × D)}, EntsR w K es tbl →
    match tGet tbl x with
    | some d => ∃ u v, (es.find? fun e => (mixKind P w).is (.inr x) e.key).map (·.val) = some u ∧ RelV v u ∧ KRel K d v
    | none => (es.find? fun e => (mixKind P w).is (.inr x) e.key).map (·.val) = none
  | [], tbl, h => by
    have h' : tbl = [] := h
    subst h'
    rfl
  | e0 :: es, tbl, h => by
    obtain ⟨y, d, rest, rfl, ⟨t, hk⟩, hh, ⟨v, rv, kv⟩, hr⟩ := h
    have ih := hr.find (P := P) (x := x)
    have hi : (mixKind P w).is (.inr x) e0.key = decide (y = x) := by rw [hk]; exact is_str
    unfold tGet at ih ⊢
    rw [List.find?_cons, List.find?_cons]
    by_cases hy : y = x
    · subst hy
      simp only [decide_true, hi]
      exact ⟨_, v, rfl, rv, kv⟩
    · simp only [hy, decide_false, hi]
      exact ih
theorem DctAt.map {P : Program} {w : World} {K : PySem.W.Frag} {a : Addr} {tbl : List (Str × D)} (h : DctAt w K a tbl) {hp : Heap} (hk : K.In hp) : ∃ f, hp.MapOf (mixKind P w) a f ∧ ∀ x : Str, match tGet tbl x with
    | some d => ∃ u v, f (.inr x) = some u ∧ RelV v u ∧ KRel K d v
    | none => f (.inr x) = none := by
  obtain ⟨o, es, ep, h1, h2, h3, h4⟩ := h.ex
  refine ⟨_, ⟨o, es, ep, hk a o h1, h2, h3, fun e he => h4.keys e (by simpa using he), fun k => rfl⟩, fun x => ?_⟩
  have := h4.find (P := P) (x := x)
  unfold findBy
  rw [← Array.find?_toList]
  exact this
noncomputable def fDGet (tbl : List (Str × D)) (fe : FE) : FE := fun σ g => (fe σ g).bind fun r => match r.1 with | .str x => (tGet tbl x).map fun d => (d, r.2) | _ => none
noncomputable def rDct (K : PySem.W.Frag) (a : Addr) (tbl : List (Str × D)) : R2 := fun x y H Q => ∃ k d, x = .ref a ∧ y = .str k ∧ tGet tbl k = some d ∧ ∀ v, KRel K d v → Q v H
section
variable {X : Cx} {a : Addr} {tbl : List (Str × D)}
theorem ix_dct (hD : DctAt X.w X.K a tbl) : IxR X (rDct X.K a tbl) := by
  intro value slice pins s σ H x y v u Q I rx ry h hs
  obtain ⟨k, d, rfl, rfl, hd, q⟩ := h
  cases rx
  obtain ⟨f, hm, hf⟩ := hD.map (P := X.prog) I.kIn
  have hx := hf k
  rw [hd] at hx
  obtain ⟨w', v', h1, h2, h3⟩ := hx
  obtain ⟨t, rfl⟩ := ry
  exact subscriptTail_builtinR (x := w') hm.typeIs slot_dict_getitem.lookup
    (wpAny_getItem_of (k := (.inr k : Key)) (Q := fun r s' => r = w' ∧ EP X pins σ Q r s') (mixKind_str X.prog X.w k t) hm h1 ⟨rfl, v', H, I.tok _, h2, q v' h3⟩) hs
noncomputable def idxD (xs : List D) (d : D) : Option Nat := xs.findIdx? fun y => eqD y d
noncomputable def fDIdx (tbl : List (Str × D)) (fe fx : FE) : FE := fun σ g => (fe σ g).bind fun r => match r.1 with
  | .str x => match tGet tbl x with
    | some (.tup xs) => (fx σ r.2).bind fun q => if (flt q.1 && xs.all flt) = true then (idxD xs q.1).map fun j => (.int j, q.2) else none
    | _ => none
  | _ => none
noncomputable def rIdxK (K : PySem.W.Frag) : V → List V → Hp → VK → Prop := fun x vs H Q => ∃ xs y j, KRel K (.tup xs) x ∧ vs = [toV y] ∧ flt y = true ∧ xs.all flt = true ∧ idxD xs y = some j ∧ Q (.int j) H
theorem mt_indexK : MtR X "tuple.index" (rIdxK X.K) := by
  intro pins s σ H x vs v us Q I rx rv h
  obtain ⟨xs, y, j, hk, rfl, hy, hx, hj, q⟩ := h
  rcases hk with ⟨hk, _⟩ | ⟨xs', a, o, its, n, e0, hx', rfl, h1, h2, h3, h4, h5, h6⟩
  · cases hk
  cases e0
  cases rx
  obtain ⟨u, rfl, ru⟩ := rv.one
  have hg := I.kIn a o h1
  obtain ⟨cls, dd, data, sl⟩ := o
  simp only at h2 h3 h4
  subst h2 h3 h4
  have fy : flatV (toV y) = true := (flt_rel hy (rel_flt (K := X.K) (H := H) (ι := ⟨[], []⟩) hy)).2
  have fx : (xs.map toV).all flatV = true := (flt_rels hx (rels_flt (K := X.K) (H := H) (ι := ⟨[], []⟩) hx)).2
  unfold idxD at hj
  rw [List.findIdx?_eq_some_iff_getElem] at hj
  obtain ⟨hlt, hit, hno⟩ := hj
  have hlen : (xs.map toV).length = its.toList.length := h6.length
  rw [List.length_map] at hlen
  have hsz : j < its.size := by rw [← Array.length_toList]; omega
  have item : ∀ m (hm : m < xs.length) (hm' : m < its.size), eqU (toV y) its[m] = eqD xs[m] y := fun m hm hm' => by
    obtain ⟨u', e', r'⟩ := h6.get (i := m) (x := toV xs[m]) (by rw [List.getElem?_map, List.getElem?_eq_getElem hm]; rfl)
    rw [Array.getElem?_toList, Array.getElem?_eq_getElem hm'] at e'
    cases e'
    have fm : flt xs[m] = true := List.all_eq_true.mp hx _ (List.getElem_mem hm)
    rw [eqU_of r' (flt_rel fm (rel_flt (K := X.K) (H := H) (ι := ⟨[], []⟩) fm)).2, eqV_D fm hy]
  refine call_meets F.slot_tuple_index ⟨_, hg, rfl⟩ F.entry_tuple_index (F.args_tuple_index_2 _ _) (tuple_indexAt a its n none sl u (eqU (toV y)) j hsz (by rw [item j hlt hsz]; exact hit) (fun m hm hmj => by
    have hm2 : m < xs.length := by omega
    rw [item m hm2 hm]
    simpa using hno m hmj)) ⟨hg, fun z hz => mem_eqAt ru fy h6 fx z (by simpa using hz), ?_⟩
  exact ⟨.int j, H, I.tok _, ⟨_, rfl⟩, q⟩
theorem de_didx {C : Str} {p pos apos cpos : Pos} {e x : Expr} {fe fx : FE} (hD : DctAt X.w X.K a tbl) (hm : X.mg C = some (.ref a)) (he : DE X e fe) (hx : DE X x fx) (hg : Gl X C := by rfl) (hs : PlainIx e := by exact fun _ _ => rfl) (hd : (C == ("__debug__" : Str)) = false := by decide)
    (hbase : attributeBase (.Subscript (.Name C p) e pos) "index" X.env (eval (.Subscript (.Name C p) e pos) X.env) = eval (.Subscript (.Name C p) e pos) X.env := by rfl)
    (hfew : ((backTo cpos (starEach [x] X.env)).all (fun x => !x.1) && (backToKw cpos (keywordEach [] X.env)).all (fun x => x.1.isSome)
      && decide ([x].length + ([] : List Keyword).length + (if ([] : List Keyword).isEmpty then 0 else 1) < 30)) = true := by rfl)
    (hline : (apos.endLine == cpos.line) = true := by rfl) (hst : starEach [x] X.env = (false, eval x X.env) :: starEach [] X.env := by rfl) :
    DE X (.Call (.Attribute (.Subscript (.Name C p) e pos) "index" apos) [x] [] cpos) (fDIdx tbl fe fx) := .of (
  PE.imp (pe_bm PySem.F.plainAttrs_tuple PySem.F.slot_tuple_index PySem.F.type_tuple_index mt_indexK (pe_ix (ix_dct hD) (pe_glob (v := .ref a) hg hm rfl hd) he.un hs) (pa_cons hx.un pa_nil hst) hbase hfew hline hst (by rfl)) fun σ H Q h => by
    obtain ⟨ι, σd, g, d, g', G0, S0, h, p⟩ := h
    obtain ⟨⟨d1, g1⟩, h1, h⟩ := bind_some h
    refine tD.bind G0 S0 h1 fun H1 ι1 v e1 G1 S1 r1 => ?_
    cases d1 with
    | str k =>
      simp only [Rel] at r1
      subst r1
      dsimp only at h
      cases hk : tGet tbl k with
      | none => rw [hk] at h; cases h
      | some d2 =>
        rw [hk] at h
        cases d2 with
        | tup xs =>
          dsimp only at h
          obtain ⟨⟨d3, g3⟩, h3, h⟩ := bind_some h
          refine ⟨k, _, rfl, rfl, hk, fun v kv => ⟨?_, ?_⟩⟩
          · rcases kv with ⟨kv, _⟩ | ⟨xs', a', o, its, n, e0, hx', rfl, q1, q2, q3, q4, q5, q6⟩
            · cases kv
            · exact .inr (.inl ⟨rfl, o, q1, q2, q3⟩)
          · refine tD.bind G1 S1 h3 fun H2 ι2 u e2 G2 S2 r2 => ?_
            dsimp only at h
            split at h
            · rename_i z
              rw [Bool.and_eq_true] at z
              cases hj : idxD xs d3 with
              | none => rw [hj] at h; cases h
              | some j =>
                rw [hj] at h
                cases h
                refine ⟨xs, d3, j, kv, by rw [(flt_rel z.1 r2).1], z.1, z.2, hj, p H2 ι2 _ (e1.trans e2) G2 (by simp [Rel])⟩
            · cases h
        | _ => cases h
    | _ => cases h)
end
end L3
namespace L3
open PySem PySem.Spec PyProof.Rows L2
noncomputable def fApp (fo fx : FE) : FE := fun σ g => (fo σ g).bind fun r => match r.1 with
  | .ref n => if (r.2[n]?).isSome = true then (fx σ r.2).bind fun q => match q.2[n]? with
      | some xs => if szOk (xs.length + 1) = true then some (.non, q.2.set n (xs ++ [q.1])) else none
      | none => none
    else none
  | _ => none
noncomputable def fExt (fo fx : FE) : FE := fun σ g => (fo σ g).bind fun r => match r.1 with
  | .ref n => if (r.2[n]?).isSome = true then (fx σ r.2).bind fun q => match q.1 with
      | .lst zs => match q.2[n]? with
        | some xs => if szOk (xs.length + zs.length) = true then some (.non, q.2.set n (xs ++ zs)) else none
        | none => none
      | _ => none
    else none
  | _ => none
theorem list_extendW (l : Addr) (items : Array Value) (n : Nat) (b : Addr) (items2 : Array Value) (n2 : Nat) (sl : Array (Option Value)) (hc0 : ¬(!items.isEmpty && Builtin.List.listTooLong (items.size + items2.size)) = true) (hc1 : items.size ≤ sizeLine) (hs2 : items.size + items2.size ≤ sizeLine + 1) :
    Meets (Builtin.«list.extend» ⟨[.ref l, .ref b], []⟩) (fun _ R s => s.heap.get? l = some { cls := .type "list", dict := none, data := .seq items n, slots := #[] } ∧ s.heap.get? b = some { cls := .type "list", dict := none, data := .seq items2 n2, slots := sl } ∧ R (.ok (.ret Value.none)) { s with heap := s.heap.update l (Obj.mapSeq fun x => x ++ items2), toks := s.toks }) :=
  .of_wp fun prog w A R s h => by
    obtain ⟨hp, g, d, tk, os⟩ := s; obtain ⟨hl, hb, h⟩ := h
    have f1 := AutoSeq1.idx_int
    have f2 := AutoSeq1.sub_tuple_tuple
    have f3 := AutoSeq1.sub_list_list
    have f4 := AutoSeq1.sub_tuple_list
    have f5 := AutoSeq1.sub_list_tuple
    have hz' : (items ++ items2).size ≤ sizeLine + 1 := by rw [Array.size_append]; exact hs2
    wp_walk using (wpAny_updateSeq hl rfl (hz := hc1) (_hz' := hz')), wpAny_loadPart' hl, wpAny_loadPart' hb
    exact ⟨_, rfl, h⟩
section
variable {X : Cx}
noncomputable def rExtendL (K : PySem.W.Frag) : V → List V → Hp → VK → Prop := fun x vs H Q => ∃ l b xs zs, x = .ref l ∧ vs = [.ref b] ∧ H l = some (.lst xs) ∧ SqL K H b zs ∧ xs.length + zs.length ≤ sizeLine ∧ Q .non (upd H l (.lst (xs ++ zs)))
theorem mt_extendL : MtM X "list.extend" (rExtendL X.K) := by
  intro pins s σ H x vs v us Q I rx rv h
  obtain ⟨l, b, xs, zs, rfl, rfl, hH, hB, hz, q⟩ := h
  cases rx
  obtain ⟨u, rfl, ru⟩ := rv.one
  cases ru
  obtain ⟨z, its, n, r, hl, e⟩ := I.lstM hH
  obtain ⟨its2, r2, p2, _⟩ := I.list hB
  obtain ⟨⟨cls2, dd2, data2, sl2⟩, n2, e2, hc2, hdd2, hd2⟩ := id p2
  simp only at hc2 hd2 hdd2
  subst hc2 hd2 hdd2
  have hl2 := r2.length
  have hsz : its.toArray.size + its2.toArray.size ≤ sizeLine := by rw [List.size_toArray, List.size_toArray]; omega
  have hlong : ¬ (!its.toArray.isEmpty && Builtin.List.listTooLong (its.toArray.size + its2.toArray.size)) = true := by
    rw [notLongL hsz, Bool.and_false]
    exact Bool.false_ne_true
  refine call_meets F.slot_list_extend ⟨_, e, rfl⟩ F.entry_list_extend (F.args_list_extend_2 _ _)
    (list_extendW l its.toArray n b its2.toArray n2 sl2 hlong (by rw [List.size_toArray]; omega) (by omega)) ⟨e, e2, ?_⟩
  refine ⟨.non, _, I.lset (its' := its ++ its2) hH e (by simp) (r.append r2) ?_, rfl, q⟩
  rw [List.length_append]
  omega
variable {o x : Expr} {fo fx : FE} {apos cpos : Pos}
theorem de_append (ho : DE X o fo) (hx : DE X x fx) (hbase : attributeBase o "append" X.env (eval o X.env) = eval o X.env := by rfl)
    (hfew : ((backTo cpos (starEach [x] X.env)).all (fun x => !x.1) && (backToKw cpos (keywordEach [] X.env)).all (fun x => x.1.isSome)
      && decide ([x].length + ([] : List Keyword).length + (if ([] : List Keyword).isEmpty then 0 else 1) < 30)) = true := by rfl)
    (hline : (apos.endLine == cpos.line) = true := by rfl) (hst : starEach [x] X.env = (false, eval x X.env) :: starEach [] X.env := by rfl) :
    DE X (.Call (.Attribute o "append" apos) [x] [] cpos) (fApp fo fx) := .of (
  PE.imp (pe_bm PySem.F.plainAttrs_list PySem.F.slot_list_append PySem.F.type_list_append mt_append ho.un (pa_cons hx.un pa_nil hst) hbase hfew hline hst (by rfl)) fun σ H Q h => by
    obtain ⟨ι, σd, g, d, g', G0, S0, h, p⟩ := h
    obtain ⟨⟨d1, g1⟩, h1, h⟩ := bind_some h
    refine tD.bind G0 S0 h1 fun H1 ι1 v e1 G1 S1 r1 => ?_
    cases d1 with
    | ref n =>
      simp only [Rel] at r1
      obtain ⟨a, rfl, ha⟩ := r1
      dsimp only at h
      split at h
      · rename_i z
        obtain ⟨ys, hys⟩ := Option.isSome_iff_exists.mp z
        obtain ⟨ws, hw, _⟩ := G1.at hys ha
        refine ⟨.inl ⟨rfl, ws, .of hw⟩, ?_⟩
        obtain ⟨⟨d3, g3⟩, h3, h⟩ := bind_some h
        refine tD.bind G1 S1 h3 fun H2 ι2 u e2 G2 S2 r2 => ?_
        dsimp only at h
        cases hx' : g3[n]? with
        | none => rw [hx'] at h; cases h
        | some xs =>
          rw [hx'] at h
          dsimp only at h
          split at h
          · rename_i z2
            cases h
            have ha2 := e2.at ha
            obtain ⟨vs, hv, hr⟩ := G2.at hx' ha2
            refine ⟨a, vs, u, rfl, rfl, hv, ?_, ?_⟩
            · have := szOk.le z2
              rw [← hr.length]; omega
            · exact p _ ι2 _ ((e1.trans e2).trans (Ext.put ha2 hv)) (G2.put ha2 hv (RelL.append hr (by simp only [RelL]; exact ⟨_, _, rfl, r2, rfl⟩))) (by simp [Rel])
          · cases h
      · cases h
    | _ => cases h)
theorem de_extend (ho : DE X o fo) (hx : DE X x fx) (hbase : attributeBase o "extend" X.env (eval o X.env) = eval o X.env := by rfl)
    (hfew : ((backTo cpos (starEach [x] X.env)).all (fun x => !x.1) && (backToKw cpos (keywordEach [] X.env)).all (fun x => x.1.isSome)
      && decide ([x].length + ([] : List Keyword).length + (if ([] : List Keyword).isEmpty then 0 else 1) < 30)) = true := by rfl)
    (hline : (apos.endLine == cpos.line) = true := by rfl) (hst : starEach [x] X.env = (false, eval x X.env) :: starEach [] X.env := by rfl) :
    DE X (.Call (.Attribute o "extend" apos) [x] [] cpos) (fExt fo fx) := .of (
  PE.imp (pe_bm PySem.F.plainAttrs_list PySem.F.slot_list_extend PySem.F.type_list_extend mt_extendL ho.un (pa_cons hx.un pa_nil hst) hbase hfew hline hst (by rfl)) fun σ H Q h => by
    obtain ⟨ι, σd, g, d, g', G0, S0, h, p⟩ := h
    obtain ⟨⟨d1, g1⟩, h1, h⟩ := bind_some h
    refine tD.bind G0 S0 h1 fun H1 ι1 v e1 G1 S1 r1 => ?_
    cases d1 with
    | ref n =>
      simp only [Rel] at r1
      obtain ⟨a, rfl, ha⟩ := r1
      dsimp only at h
      split at h
      · rename_i z
        obtain ⟨ys, hys⟩ := Option.isSome_iff_exists.mp z
        obtain ⟨ws, hw, _⟩ := G1.at hys ha
        refine ⟨.inl ⟨rfl, ws, .of hw⟩, ?_⟩
        obtain ⟨⟨d3, g3⟩, h3, h⟩ := bind_some h
        refine tD.bind G1 S1 h3 fun H2 ι2 u e2 G2 S2 r2 => ?_
        cases d3 with
        | lst zs =>
          dsimp only at h
          simp only [Rel] at r2
          obtain ⟨b, us, rfl, hq, hrz⟩ := r2
          cases hx' : g3[n]? with
          | none => rw [hx'] at h; cases h
          | some xs =>
            rw [hx'] at h
            dsimp only at h
            split at h
            · rename_i z2
              cases h
              have ha2 := e2.at ha
              obtain ⟨vs, hv, hr⟩ := G2.at hx' ha2
              refine ⟨a, b, vs, us, rfl, rfl, hv, hq.sq, ?_, ?_⟩
              · rw [← hr.length, ← hrz.length]; exact szOk.le z2
              · exact p _ ι2 _ ((e1.trans e2).trans (Ext.put ha2 hv)) (G2.put ha2 hv (RelL.append hr hrz)) (by simp [Rel])
            · cases h
        | _ => cases h
      · cases h
    | _ => cases h)
end
end L3
namespace L3
open PySem PySem.Spec PyProof.Rows L2
noncomputable def PrR : List Str → List V → List (Value × Value) → Prop
  | [], xs, vs => xs = [] ∧ vs = []
  | k :: ks, xs, vs => ∃ x xr t u vr, xs = x :: xr ∧ vs = (.str k t, u) :: vr ∧ RelV x u ∧ PrR ks xr vr
structure DPr (X : Cx) (keys : List (Option Expr)) (vals : List Expr) (pos : Pos) (ks : List Str) (fr : FA) : Prop where
  all : keys.all (·.isSome) = true
  len : keys.length = vals.length
  len2 : keys.length = ks.length
  un : ∀ (pins : List (Addr × Obj)) (s : Shared) (σ : L2.St) (H : Hp) (Q : List V → Hp → Prop), Inv X pins σ H s → tDA X.K fr σ H Q →
    wpAny (model X.prog X.w) X.A (evalPairs (pairTrees keys vals X.env pos)) (fun vs s1 => ∃ xs H1, Inv X pins σ H1 s1 ∧ PrR ks xs vs ∧ Q xs H1) X.xe s
section
variable {X : Cx} {pos : Pos}
end
end L3
namespace L3
open PySem PySem.Spec PyProof.Rows L2
section
variable {X : Cx}
noncomputable def fPar (i j : Nat) (fr : FA) : FS := fun σ g => (fr σ g).bind fun r => match r.1 with
  | [a, b] => some (.nx, (σ.set i (some a)).set j (some b), r.2)
  | _ => none
theorem ds_par {i j : Nat} {x y : Str} {a b : Expr} {fr : FA} {px py pt pos : Pos} {kt k2 pt2} (hc : X.calm = true) (hN : X.N.Nodup) (hi : X.N[i]? = some x) (hj : X.N[j]? = some y) (hij : i ≠ j)
    (hx : X.env.scope.names.lookup x = some .local) (hy : X.env.scope.names.lookup y = some .local) (ha : DA X [a, b] fr)
    (hw : swappedStores [.Tuple [.Name x px, .Name y py] kt pt] (.Tuple [a, b] k2 pt2) X.env = pure (some [x, y]))
    (hs : swapsWithSole [.Tuple [.Name x px, .Name y py] kt pt] (.Tuple [a, b] k2 pt2) pos.line X.env = pure false := by rfl) :
    DS X (.Assign [.Tuple [.Name x px, .Name y py] kt pt] (.Tuple [a, b] k2 pt2) pos) (fPar i j fr) := .of (
  PS.imp (ps_par hc hN hi hj hij hx hy ha.un hw hs) fun Dn σ H h => by
    obtain ⟨ι, σd, g, r, σd', g', G0, S0, h, p⟩ := h
    obtain ⟨⟨ds, g1⟩, h1, h⟩ := bind_some h
    refine tDA.bind G0 S0 h1 fun H1 ι1 vs e1 G1 S1 r1 => ?_
    dsimp only at h
    split at h
    · rename_i a b
      cases h
      simp only [RelL] at r1
      obtain ⟨v, vr, rfl, ra, u, ur, rfl, rb, rfl⟩ := r1
      exact ⟨v, u, rfl, p H1 ι1 e1 G1 _ ((S1.set ra i).set rb j)⟩
    · cases h)
end
end L3
namespace L3
open PySem PySem.Spec PyProof.Rows L2
theorem next_tup_item {prog : Program} {w : World} {A : Around} {E : Value → Shared → Prop} {s : Shared} {it a : Addr} {i : Nat} {items : Array Value} {x : Value} {Q : Value → Shared → Prop} (hit : s.heap.IsTupleIter it a i) (hl : s.heap.IsTuple a items) (hx : items[i]? = some x)
    (hQ : ∀ h', h'.IsTupleIter it a (i + 1) → Heap.SameBut it s.heap h' → Q x { s with heap := h' }) : wpAny (model prog w) A (Builtin.SmallTypes.nextOf (.ref it)) Q E s := by
  obtain ⟨o, jo, jc, jd⟩ := id hit
  obtain ⟨tb0, tb1, _, tb3, tb2⟩ := hl
  unfold Builtin.SmallTypes.nextOf
  refine wpAny_bind (wpAny_callSpecial?_slot (name := Str.ofString "__next__") hit.typeIs F.slot_tuple_iterator_next (wpAny_call_entry F.slot_tuple_iterator_next hit.typeIs F.entry_tuple_iterator_next ?_ (F.args_tuple_iterator_next_1 _)))
  change wpAny _ _ (field (.ref it) 0 >>= fun _ => _) _ _ _
  refine wpAny_bind (wpAny_field jo jd (x := .ref a) rfl ?_)
  change wpAny _ _ (if (Value.ref a == Value.none) = true then _ else _) _ _ _
  rw [if_neg (by exact Bool.false_ne_true)]
  change wpAny _ _ (field (.ref it) 1 >>= fun _ => _) _ _ _
  refine wpAny_bind (wpAny_field jo jd (x := .int i 0) rfl ?_)
  change wpAny _ _ (seqItems? (.ref a) >>= fun _ => _) _ _ _
  refine wpAny_bind (wpAny_seqItems tb1 tb2 ?_)
  simp only [Int.toNat_natCast, hx]
  refine wpAny_bind (wpAny_setField jo jd (by simp) ?_)
  refine wpAny_pure ⟨x, rfl, wpAny_pure (hQ _ ⟨_, Heap.get?_update_self _ jo (Obj.isFreed_of_fields (Obj.data_mapFields jd _)), (Obj.cls_mapFields ..).trans jc, ?_⟩ (Heap.SameBut.update ..))⟩
  rw [Obj.data_mapFields jd]
  simp [rawInt]
theorem next_tup_end {prog : Program} {w : World} {A : Around} {E : Value → Shared → Prop} {s : Shared} {it a : Addr} {i : Nat} {items : Array Value} {Q : Value → Shared → Prop} (hh : A.handled = none) (hit : s.heap.IsTupleIter it a i) (hl : s.heap.IsTuple a items) (hx : items[i]? = none)
    (hE : ∀ h' e, Heap.ExtBut it s.heap h' → (∃ o, h'.get? e = some o ∧ o.cls = .type "StopIteration") → E (.ref e) { s with heap := h' }) : wpAny (model prog w) A (Builtin.SmallTypes.nextOf (.ref it)) Q E s := by
  obtain ⟨o, jo, jc, jd⟩ := id hit
  obtain ⟨tb0, tb1, _, tb3, tb2⟩ := hl
  unfold Builtin.SmallTypes.nextOf
  refine wpAny_bind (wpAny_callSpecial?_slot (name := Str.ofString "__next__") hit.typeIs F.slot_tuple_iterator_next (wpAny_call_entry F.slot_tuple_iterator_next hit.typeIs F.entry_tuple_iterator_next ?_ (F.args_tuple_iterator_next_1 _)))
  change wpAny _ _ (field (.ref it) 0 >>= fun _ => _) _ _ _
  refine wpAny_bind (wpAny_field jo jd (x := .ref a) rfl ?_)
  change wpAny _ _ (if (Value.ref a == Value.none) = true then _ else _) _ _ _
  rw [if_neg (by exact Bool.false_ne_true)]
  change wpAny _ _ (field (.ref it) 1 >>= fun _ => _) _ _ _
  refine wpAny_bind (wpAny_field jo jd (x := .int i 0) rfl ?_)
  change wpAny _ _ (seqItems? (.ref a) >>= fun _ => _) _ _ _
  refine wpAny_bind (wpAny_seqItems tb1 tb2 ?_)
  simp only [Int.toNat_natCast, hx]
  refine wpAny_bind (wpAny_rule (wpAny_bind (wpAny_setField jo jd (by simp) ?_)))
  change wpAny _ _ (newExc (.type "StopIteration") [] >>= fun _ => _) _ _ _
  refine wpAny_bind ?_
  simp only [newExc, newTuple]
  refine wpAny_bind (wpAny_newObj_type ?_ (by size_fits))
  refine wpAny_bind (m := firstArgMember _ _) (wpAny_of_eq (a := Value.none) (by first | rfl | (simp only [firstArgMember]; rfl)) ?_)
  refine wpAny_newObj_type ?_ (by size_fits)
  simp only [raiseNew]
  refine wpAny_bind (wpAny_handled ?_)
  rw [show A.in1.handled = none from hh]
  exact wpAny_bind (wpAny_pure (wpAny_throw (hE _ _ (((Heap.SameBut.update ..).extBut.push _).push _) ⟨_, Heap.get?_push_size _ rfl, rfl⟩)))
theorem draws_tup {prog : Program} {w : World} {A : Around} (hh : A.handled = none) (it a : Addr) (hne : a ≠ it) (items : Array Value) :
    Draws prog w A it [it, a] items.size (fun i v => items[i]? = some v) (fun i h => h.IsTupleIter it a i ∧ h.IsTuple a items) where
  live := fun _ _ st => let ⟨o, ho, _⟩ := st.1; ⟨o, ho⟩
  frame := fun _ _ _ st hk => ⟨st.1.at fun o e => hk it (by simp) o e, let ⟨o, ho, r⟩ := st.2; ⟨o, hk a (by simp) o ho, r⟩⟩
  item := fun i s Q E hi st hQ => next_tup_item st.1 st.2 (x := items[i]) (by simp [hi]) fun h' hit' hs' => hQ _ h' s.toks (by simp [hi]) ⟨hit', st.2.extBut hs'.extBut hne⟩ hs'
  done := fun s Q E st hE => next_tup_end hh st.1 st.2 (by simp) hE
theorem draws_end {prog : Program} {w : World} {A : Around} (hh : A.handled = none) (it a : Addr) (items : Array Value) (n : Nat) (hn : items.size ≤ n) :
    Draws prog w A it [it, a] n (fun _ _ => True) (fun j h => j = n ∧ h.IsTupleIter it a n ∧ h.IsTuple a items) where
  live := fun _ _ st => let ⟨o, ho, _⟩ := st.2.1; ⟨o, ho⟩
  frame := fun _ _ _ st hk => ⟨st.1, st.2.1.at fun o e => hk it (by simp) o e, let ⟨o, ho, r⟩ := st.2.2; ⟨o, hk a (by simp) o ho, r⟩⟩
  item := fun i s Q E hi st hQ => absurd st.1 (Nat.ne_of_lt hi)
  done := fun s Q E st hE => next_tup_end hh st.2.1 st.2.2 (by simp; exact hn) hE
theorem enum_newT (a : Addr) (items : Array Value) (n : Nat) (dct : Option Addr) (sl : Array (Option Value)) :
    Meets (Builtin.«enumerate.__new__» ⟨[.type "enumerate", .ref a], []⟩) (fun _ R s => s.heap.get? a = some { cls := .type "tuple", dict := dct, data := .seq items n, slots := sl } ∧
      R (.ok (.ret (.ref (s.heap.push { cls := .type "tuple_iterator", data := .fields #[.ref a, .int 0 0] }).objs.size)))
        { s with heap := (s.heap.push { cls := .type "tuple_iterator", data := .fields #[.ref a, .int 0 0] }).push { cls := .type "enumerate", data := .fields #[.none, .bool false, .ref s.heap.objs.size, rawInt 0, .none, .none] } }) :=
  .of_wp fun prog w A R s h => by
    obtain ⟨hp, g, d, tk, os⟩ := s
    obtain ⟨ht, h⟩ := h
    have sub := sub_enumerate
    have tup : Heap.IsTuple (Shared.heap ⟨hp, g, d, tk, os⟩) a items := ⟨_, ht, rfl, n, rfl⟩
    wp_walk using wpAny_loadPart' ht
    refine wpAny_stack_any fun st => wpAny_pure ?_
    split
    · rename_i c _ _ _ _ _
      cases (c == Value.type "enumerate") <;> (wp_walk using wpAny_loadPart' ht, wpAny_pyIter_tuple tup; exact ⟨_, rfl, h⟩)
    · wp_walk using wpAny_loadPart' ht, wpAny_pyIter_tuple tup
      exact ⟨_, rfl, h⟩
theorem call_enumT {prog : Program} {w : World} {A : Around} {E : Value → Shared → Prop} {s : Shared} {a : Addr} {items : Array Value} {Q : Value → Shared → Prop} (ht : s.heap.IsTuple a items)
    (h : ∀ h', IsEnum h' (s.heap.objs.size + 1) s.heap.objs.size 0 .none → h'.IsTupleIter s.heap.objs.size a 0 → (∀ b o, s.heap.get? b = some o → h'.get? b = some o) → Q (.ref (s.heap.objs.size + 1)) { s with heap := h' }) :
    wpAny (model prog w) A (call (.type "enumerate") [.ref a]) Q E s := by
  obtain ⟨⟨c, dct, dt, sl⟩, e1, e2, n, e3⟩ := ht
  cases (show c = .type "tuple" from e2)
  cases (show dt = .seq items n from e3)
  refine callType_new F.called_enumerate (by decide) (F.typeCall_enumerate_1 _) (F.newCall_enumerate_1 _) (fun obj => F.args_object_init_2 obj _) F.entry_enumerate_new (enum_newT a items n dct sl) ⟨e1, ?_⟩
  have sz : (s.heap.push { cls := .type "tuple_iterator", data := .fields #[.ref a, .int 0 0] }).objs.size = s.heap.objs.size + 1 := Heap.size_push ..
  have en := Heap.get?_push_size (s.heap.push { cls := .type "tuple_iterator", data := .fields #[.ref a, .int 0 0] }) (o := { cls := .type "enumerate", data := .fields #[.none, .bool false, .ref s.heap.objs.size, rawInt 0, .none, .none] }) rfl
  rw [sz] at en
  show _ ∧ _
  rw [sz]
  exact ⟨⟨_, en, rfl⟩, h _ en ⟨_, Heap.get?_push_of_some _ (Heap.get?_push_size _ rfl), rfl, rfl⟩ fun b o x => Heap.get?_push_of_some _ (Heap.get?_push_of_some _ x)⟩
theorem turnedL {X : Cx} {pins : List (Addr × Obj)} {σ : L2.St} {H : Hp} {s : Shared} {h' : Heap} {t' : Nat} {ch : List Addr} (I : L2.Inv X pins σ H s) (k : ∀ b o, b ∉ ch → s.heap.get? b = some o → h'.get? b = some o) (hf : ∀ b ∈ ch, FpOk X pins H b) :
    L2.Inv X pins σ H { s with heap := h', toks := t' } := by
  have nit : ∀ b u, H b = some u → b ∉ ch := fun b u e z => by rw [(hf b z).1] at e; cases e
  refine I.step (g' := s.gens) (d' := s.drawn) (ch := ch) (fun b hb => ?_) (fun b o _ _ hc e _ => k b o hc e) (fun b o _ _ hc e _ => ⟨o.slots, k b o hc e⟩) (fun _ _ _ _ n => n)
    (fun b o hc e => ⟨o, k b o hc e⟩) (fun _ _ e => e) (fun _ _ _ e => e) (fun b ps e => ⟨#[], by rw [e]; simp⟩) (fun m hm => ?_) (fun b u e => ?_) I.bare
  · obtain ⟨f0, f1, f2, f3, f4, f5⟩ := hf b hb
    exact ⟨f3, f1, f4, f5⟩
  · obtain ⟨o, es, ep, ho, r⟩ := hm
    exact ⟨o, es, ep, k _ o (fun z => (hf _ z).2.1 rfl) ho, r⟩
  · refine (I.hok b u e).stay (fun c v hc q => k c v ?_ q) (fun _ q => q) fun _ _ q => q
    rcases hc with z | z
    · rw [z]; exact nit b u e
    · exact nit c _ z
noncomputable def IteT (K : PySem.W.Frag) (a : Addr) : It :=
  ⟨fun i H => ∃ xs x, SqT K H a xs ∧ xs[i]? = some x, fun i H x H' => ∃ T v, x = .ref T ∧ H T = none ∧ H' = upd H T (.tup [.int i, v]) ∧ ∀ xs, SqT K H a xs → xs[i]? = some v, fun i H => ∃ xs, SqT K H a xs ∧ xs.length ≤ i⟩
theorem turn_enumT {P : Program} {w : World} {K : PySem.W.Frag} {elts : List Expr} {kt : Nat} {tp : Pos} (a e it : Addr) (hei : e ≠ it) : Turn P w K (.Tuple elts kt tp) (IteT K a) [e, it] e (fun i h => (∃ old, IsEnum h e it i old) ∧ h.IsTupleIter it a i) where
  mem := by simp
  obj := fun i h st b hb => by
    obtain ⟨⟨old, h1⟩, o, h2, h3, h4⟩ := st
    rcases List.mem_cons.mp hb with rfl | hb
    · exact ⟨_, h1, fun v z => by cases z⟩
    · have hb' : b = it := by simpa using hb
      subst hb'
      exact ⟨o, h2, fun v z => by rw [h4] at z; cases z⟩
  keep := fun i h h' st k => by
    obtain ⟨⟨old, h1⟩, h2⟩ := st
    exact ⟨⟨old, k e (by simp) _ h1⟩, h2.at fun o q => k it (by simp) o q⟩
  item := by
    intro X hP hw hK hc i pins s σ H E I hf st hg
    subst hP hw hK
    obtain ⟨⟨old, h1⟩, h2⟩ := st
    obtain ⟨xs, x, hq, hx⟩ := hg
    obtain ⟨its, rv, p, hz⟩ := I.tuple hq
    obtain ⟨u, hu, ru⟩ := rv.get hx
    have ai : a ≠ it := fun z => by
      obtain ⟨o, q1, q2, _⟩ := p
      obtain ⟨o', q3, q4, _⟩ := h2
      rw [z, q3] at q1
      cases q1
      rw [q4] at q2
      exact absurd q2 (by decide)
    have ae : e ≠ a := fun z => by
      obtain ⟨o, q1, q2, _⟩ := p
      rw [← z, h1] at q1
      cases q1
      exact absurd (show Value.type "enumerate" = Value.type "tuple" from q2) (by decide)
    have hi : i < its.toArray.size := by
      have := (List.getElem?_eq_some_iff.mp hu).1
      simpa using this
    refine wpAny_pyNext_enum_itemD (draws_tup (A := X.A.in1) (I.ok.hd hc) it a ai its.toArray) h1 ⟨h2, p⟩ hi hei (by simp [hei, ae]) fun x' h' tk hP hout hst hT hsz hk => ?_
    have ex : x' = u := by
      have q : its.toArray[i]? = some x' := hP
      have q' : its[i]? = some x' := by simpa using q
      rw [hu] at q'
      exact (Option.some.inj q').symm
    subst ex
    refine ⟨_, rfl, wpAny_letOwnedTupleGo_enum hout fun h'' hen hs'' => ?_⟩
    have I1 : L2.Inv X pins σ (upd H s.heap.objs.size (.tup [.int i, x])) { s with heap := s.heap.push { cls := .type "tuple", data := .seq #[.int i tk, x'] } } :=
      I.laid (t' := s.toks) (o := .tup [.int i, x]) (fun b o q => Heap.get?_push_of_some _ q) (Nat.le_refl _) (show ObjOk X.prog X.w _ _ _ (.tup [.int i, x]) from ⟨by show 2 ≤ sizeLine; decide, [.int i tk, x'], .cons ⟨tk, rfl⟩ (.cons ru .nil), IsTup.new _ _⟩)
    have eT : e ≠ s.heap.objs.size := Nat.ne_of_lt (Heap.lt_size h1)
    have iT : it ≠ s.heap.objs.size := by
      obtain ⟨o', q3, _⟩ := h2
      exact Nat.ne_of_lt (Heap.lt_size q3)
    have I2 : L2.Inv X pins σ (upd H s.heap.objs.size (.tup [.int i, x])) { s with heap := h'', toks := tk + 1 } := turnedL (s := { s with heap := s.heap.push { cls := .type "tuple", data := .seq #[.int i tk, x'] } }) (ch := [e, it]) I1 (fun b o hb q => by
      simp only [List.mem_cons, List.mem_nil_iff, or_false, not_or] at hb
      have h3 : h'.get? b = some o := by
        by_cases hbT : b = s.heap.objs.size
        · subst hbT
          have : (s.heap.push { cls := .type "tuple", data := .seq #[.int i tk, x'] }).get? s.heap.objs.size = some o := q
          rw [Heap.get?_push_size _ rfl] at this
          rw [← this]; exact hT
        · exact hk b o hb.1 hb.2 ((Heap.get?_push_ne s.heap b _ hbT).symm.trans q)
      exact (hs''.2 b hb.1).trans h3) (fun b hb => by
        obtain ⟨f0, f1, f2, f3, f4, f5⟩ := hf b hb
        refine ⟨?_, f1, f2, f3, f4, f5⟩
        rcases List.mem_cons.mp hb with rfl | hb
        · rw [upd_ne eT]; exact f0
        · have hb' : b = it := by simpa using hb
          subst hb'
          rw [upd_ne iT]; exact f0)
    refine ⟨.ref s.heap.objs.size, _, I2, rfl, ⟨_, x, rfl, I.fresh, rfl, fun ys hy => by rw [I.tuple_inj hy hq]; exact hx⟩, ⟨⟨_, by simpa using hen⟩, ?_⟩, fun b hb => ?_⟩
    · exact hst.1.at fun o q => (hs''.2 it (Ne.symm hei)).trans q
    · rcases List.mem_cons.mp hb with rfl | hb
      · rw [upd_ne eT]; exact (hf _ (by simp)).1
      · have hb' : b = it := by simpa using hb
        subst hb'
        rw [upd_ne iT]; exact (hf _ (by simp)).1
  done := by
    intro X hP hw hK hc i pins s σ H E I hf st hg
    subst hP hw hK
    obtain ⟨⟨old, h1⟩, h2⟩ := st
    obtain ⟨xs, hq, hx⟩ := hg
    obtain ⟨its, rv, p, hz⟩ := I.tuple hq
    have ai : a ≠ it := fun z => by
      obtain ⟨o, q1, q2, _⟩ := p
      obtain ⟨o', q3, q4, _⟩ := h2
      rw [z, q3] at q1
      cases q1
      rw [q4] at q2
      exact absurd q2 (by decide)
    have f := hf it (by simp)
    have fin : ∀ h', Heap.ExtBut it s.heap h' → L2.Inv X pins σ H { s with heap := h' } := fun h' eb => I.turned (t' := s.toks) (fun b o hb q => eb b o hb q) f.1 f.2.1 f.2.2.2.1 f.2.2.2.2.1 f.2.2.2.2.2
    have hl := rv.length
    exact wpAny_pyNext_enum_endD (draws_end (A := X.A.in1) (I.ok.hd hc) it a its.toArray i (by simp; omega)) h1 ⟨rfl, h2, p⟩ fun h' eb => ⟨rfl, fin h' eb⟩
  self := fun _ _ _ _ _ st h => wpAny_pyIter_enum st.1.choose_spec h
noncomputable def enumD (xs : List D) : List D := xs.zipIdx.map fun p => .tup [.int (p.2 : Nat), p.1]
noncomputable def iEnumT (f : FE) : FI := fun σ g => (f σ g).bind fun r => match r.1 with | .tup xs => some (enumD xs, r.2) | _ => none
theorem ItOk.enumT {K H ι a vs ds} (hq : SqU K H ι a vs) (hr : RelL K H ι ds vs) : ItOk K (IteT K a) H ι (enumD ds) := fun i H1 ι1 g1 e1 G1 =>
  ⟨fun hl => ⟨vs, (hq.exh e1).sq, by rw [← hr.length]; simpa [enumD] using hl⟩, fun d hd => by
    unfold enumD at hd
    rw [List.getElem?_map, List.getElem?_zipIdx] at hd
    cases hx : ds[i]? with
    | none => rw [hx] at hd; cases hd
    | some d0 =>
      rw [hx] at hd
      simp only [Option.map_some, Option.some.injEq, Nat.zero_add] at hd
      subst hd
      obtain ⟨v, hv, rv⟩ := (RelL.exh e1 _ hr).get hx
      refine ⟨⟨vs, v, (hq.exh e1).sq, hv⟩, fun x H2 y => ?_⟩
      obtain ⟨T, v', rfl, hn, rfl, hy⟩ := y
      have := hy vs (hq.exh e1).sq
      rw [hv] at this
      cases this
      refine ⟨Ext.lay hn, G1.lay hn, ?_⟩
      simp only [Rel]
      refine ⟨T, _, rfl, .inl ⟨.inl upd_same, G1.fresh hn⟩, ?_⟩
      simp only [RelL, Rel]
      exact ⟨_, _, rfl, rfl, _, _, rfl, Rel.ext (Ext.lay hn) _ rv, rfl⟩⟩
theorem di_enumT {X : Cx} {l : Expr} {fe : FE} {p pos tp : Pos} {elts : List Expr} {kt : Nat} (hg : Gl X "enumerate") (hm : X.mg "enumerate" = none) (hl : DE X l fe)
    (hs : starEach [l] X.env = [(false, eval l X.env)] := by rfl) : DI X (.Tuple elts kt tp) (.Call (.Name "enumerate" p) [l] [] pos) (iEnumT fe) := .of (by
  intro pins s σ H R I h
  obtain ⟨ι, σd, g, ds, g', G0, S0, h, q⟩ := h
  obtain ⟨⟨d1, g1⟩, h1, h⟩ := bind_some h
  cases d1 with
  | tup xs =>
    cases h
    refine Call_ (ld_blt I hg hm PyProof.Rows.boot_enumerate (PyProof.Rows.callWith_type1 (thn ((pa_cons hl.un pa_nil hs) pos pins s σ H (fun vs H1 => ∃ v ι1, vs = [v] ∧ Ext H ι H1 ι1 ∧ RelG X.K H1 ι1 g1 ∧ Rel X.K H1 ι1 (.tup xs) v) I ?_) fun us s1 ⟨vs, H1, I1, r1, v, ι1, e0, e1, G1, rd⟩ => ?_) hs rfl))
    · exact ⟨ι, σd, g, _, g1, G0, S0, h1, fun H1 ι1 v e1 G1 r1 => ⟨v, ι1, rfl, e1, G1, r1⟩⟩
    · subst e0
      obtain ⟨u, rfl, ru⟩ := vals1 r1
      simp only [Rel] at rd
      obtain ⟨a, vs, rfl, hq, hr⟩ := rd
      cases ru
      obtain ⟨its, rv, pt, hz⟩ := I1.tuple hq.sq
      refine call_enumT (show s1.heap.IsTuple a its.toArray from pt) fun h' hen hti hk => ?_
      refine wpAny_pyIter_enum hen ?_
      have hne : s1.heap.objs.size + 1 ≠ s1.heap.objs.size := Nat.succ_ne_self _
      refine ⟨s1.heap.objs.size + 1, [s1.heap.objs.size + 1, s1.heap.objs.size], _, _, H1, rfl, I1.kept (t' := s1.toks) hk, turn_enumT a _ _ hne, ⟨⟨_, hen⟩, hti⟩, fun b hb => ?_, q H1 ι1 _ e1 G1 (.enumT hq hr)⟩
      rcases List.mem_cons.mp hb with rfl | hb
      · exact I1.fpOk (Nat.le_succ _) (I1.hok.fresh (Nat.le_succ _))
      · have hb' : b = s1.heap.objs.size := by simpa using hb
        subst hb'
        exact I1.fpOk (Nat.le_refl _) (I1.hok.fresh (Nat.le_refl _))
  | _ => cases h)
noncomputable def iEnum (f : FE) : FI := fun σ g => (f σ g).bind fun r => match r.1 with | .tup xs => some (enumD xs, r.2) | .lst xs => some (enumD xs, r.2) | _ => none
@[simp] theorem ev_iEnum {fa : FE} {σ : Sg} {g : G} : iEnum fa σ g = (fa σ g).bind fun r => match r.1 with | .tup xs => some (enumD xs, r.2) | .lst xs => some (enumD xs, r.2) | _ => none := rfl
end L3
namespace L3
open PySem PySem.Spec PyProof.Rows L2
noncomputable def fAug (i : Nat) (o : Int → Int → Int) (fe : FE) : FS := fun σ g => match σ[i]? with
  | some (some (.int a)) => (fe σ g).bind fun r => match r.1 with
    | .int b => some (.nx, σ.set i (some (.int (o a b))), r.2)
    | _ => none
  | _ => none
section
variable {X : Cx}
end
section
variable {σ : Sg} {g : G} {fa fb fo fx : FE} {fr : FA}
@[simp] theorem ev_fAug {i : Nat} {o : Int → Int → Int} : fAug i o fa σ g = (match σ[i]? with
  | some (some (.int a)) => (fa σ g).bind fun r => match r.1 with
    | .int b => some (.nx, σ.set i (some (.int (o a b))), r.2)
    | _ => none
  | _ => none) := rfl
@[simp] theorem ev_fApp : fApp fo fx σ g = (fo σ g).bind fun r => match r.1 with
  | .ref n => if (r.2[n]?).isSome = true then (fx σ r.2).bind fun q => match q.2[n]? with
      | some xs => if szOk (xs.length + 1) = true then some (.non, q.2.set n (xs ++ [q.1])) else none
      | none => none
    else none
  | _ => none := rfl
@[simp] theorem ev_oIn {d1 d2 : D} : oIn d1 d2 g = (seqOf d2 g).bind fun xs => if (flt d1 && xs.all flt) = true then some (.bl (inD d1 xs), g) else none := rfl
@[simp] theorem ev_oNotIn {d1 d2 : D} : oNotIn d1 d2 g = (seqOf d2 g).bind fun xs => if (flt d1 && xs.all flt) = true then some (.bl (!inD d1 xs), g) else none := rfl
@[simp] theorem ev_fPar {i j : Nat} : fPar i j fr σ g = (fr σ g).bind fun r => match r.1 with
  | [a, b] => some (.nx, (σ.set i (some a)).set j (some b), r.2)
  | _ => none := rfl
@[simp] theorem ev_fDGet {tbl : List (Str × D)} : fDGet tbl fa σ g = (fa σ g).bind fun r => match r.1 with | .str x => (tGet tbl x).map fun d => (d, r.2) | _ => none := rfl
end
end L3
namespace L3
open PySem PySem.Spec PyProof.Rows L2
structure ZA (z ti tu j1 j2 a1 a2 : Addr) : Prop where
  n1 : ti ≠ z
  n2 : tu ≠ z
  n3 : j1 ≠ z
  n4 : j2 ≠ z
  n5 : ti ≠ tu
  n6 : tu ≠ j1
  n7 : tu ≠ j2
  n8 : j1 ≠ j2
  n9 : ti ≠ j1
  n10 : ti ≠ j2
  m1 : a1 ≠ z ∧ a1 ≠ tu ∧ a1 ≠ j1 ∧ a1 ≠ j2
  m2 : a2 ≠ z ∧ a2 ≠ tu ∧ a2 ≠ j1 ∧ a2 ≠ j2
noncomputable def stay (cs : List Addr) (h h' : Heap) : Prop := ∀ c o, c ∉ cs → h.get? c = some o → h'.get? c = some o
theorem stay.tr {cs h h1 h2} (a : stay cs h h1) (b : stay cs h1 h2) : stay cs h h2 := fun c o n e => b c o n (a c o n e)
theorem stay.of {cs h h1 c} (a : Heap.SameBut c h h1) (m : c ∈ cs) : stay cs h h1 := fun b o n e => (a.2 b fun z => n (z ▸ m)).trans e
section
variable {prog : Program} {w : World} {A : Around} {E : Value → Shared → Prop} {s : Shared}
end
section
variable {prog : Program} {w : World} {A : Around} {E : Value → Shared → Prop} {s : Shared}
end
noncomputable def zipD (xs ys : List D) : List D := (xs.zip ys).map fun p => .tup [p.1, p.2]
noncomputable def iZip (fa fb : FE) : FI := fun σ g => (fa σ g).bind fun r => match r.1 with | .tup xs => (fb σ r.2).bind fun q => (match q.1 with | .tup ys => some (zipD xs ys, q.2) | _ => none) | _ => none
@[simp] theorem ev_iZip {fa fb : FE} {σ : Sg} {g : G} : iZip fa fb σ g = (fa σ g).bind fun r => match r.1 with | .tup xs => (fb σ r.2).bind fun q => (match q.1 with | .tup ys => some (zipD xs ys, q.2) | _ => none) | _ => none := rfl
end L3
namespace L3
open PySem PySem.Spec PyProof.Rows L2
noncomputable def placesD (n : Nat) (lo hi : Option Int) (st : Int) : Int × Nat := ((Builtin.Slice.sliceAdjust lo hi st (n : Int)).1, Builtin.Slice.slicePlaces (Builtin.Slice.sliceAdjust lo hi st (n : Int)).1 (Builtin.Slice.sliceAdjust lo hi st (n : Int)).2 st)
noncomputable def pickL {α : Type} (xs : List α) (l : Int) (n : Nat) (st : Int) : List α := (List.range n).filterMap fun (k : Nat) => xs[(l + (k : Int) * st).toNat]?
noncomputable def oSl3 (d : D) (lo hi st : Option Int) (g : G) : Option (D × G) := match d, st with
  | .tup xs, some k => if (!(k == 0) && !(k == 1) && szOk (placesD xs.length lo hi k).2) = true then some (.tup (pickL xs (placesD xs.length lo hi k).1 (placesD xs.length lo hi k).2 k), g) else none
  | _, _ => none
theorem oSl3_some {d d' : D} {lo hi st : Option Int} {g g' : G} (h : oSl3 d lo hi st g = some (d', g')) : ∃ xs k, d = .tup xs ∧ st = some k ∧ k ≠ 0 ∧ k ≠ 1 ∧ szOk (placesD xs.length lo hi k).2 = true ∧ d' = .tup (pickL xs (placesD xs.length lo hi k).1 (placesD xs.length lo hi k).2 k) ∧ g' = g := by
  unfold oSl3 at h
  split at h
  · rename_i xs k
    split at h
    · rename_i z
      rw [Bool.and_eq_true, Bool.and_eq_true] at z
      cases h
      exact ⟨xs, k, rfl, rfl, by simpa using z.1.1, by simpa using z.1.2, z.2, rfl, rfl⟩
    · cases h
  · cases h
noncomputable def fSl3 (fa : FE) (fl fh fs : FO) : FE := fun σ g => (fa σ g).bind fun r => (fl σ r.2).bind fun l => (fh σ l.2).bind fun h => (fs σ h.2).bind fun k => oSl3 r.1 l.1 h.1 k.1 k.2
theorem pickL_len {α : Type} (xs : List α) (l : Int) (n : Nat) (st : Int) : (pickL xs l n st).length ≤ n := by
  unfold pickL
  exact Nat.le_trans (List.length_filterMap_le _ _) (by simp)
theorem RelL.pick {K H ι} {xs : List D} {vs : List V} (r : RelL K H ι xs vs) (l : Int) (st : Int) : ∀ n k, RelL K H ι ((List.range' k n).filterMap fun (k : Nat) => xs[(l + (k : Int) * st).toNat]?) ((List.range' k n).filterMap fun (k : Nat) => vs[(l + (k : Int) * st).toNat]?)
  | 0, k => by simp [RelL]
  | n + 1, k => by
    rw [List.range'_succ, List.filterMap_cons, List.filterMap_cons]
    have ih := RelL.pick r l st n (k + 1)
    cases hx : xs[(l + (k : Int) * st).toNat]? with
    | none =>
      have hv : vs[(l + (k : Int) * st).toNat]? = none := by
        rw [List.getElem?_eq_none_iff] at hx ⊢
        rw [← r.length]; exact hx
      rw [hv]; exact ih
    | some d =>
      obtain ⟨v, hv, rv⟩ := r.get hx
      rw [hv]
      simp only [RelL]
      exact ⟨v, _, rfl, rv, ih⟩
theorem vals_pick {vs : List V} {its : List Value} (r : Vals vs its) (l : Int) (st : Int) : ∀ n k, Vals ((List.range' k n).filterMap fun (k : Nat) => vs[(l + (k : Int) * st).toNat]?) ((List.range' k n).filterMap fun (k : Nat) => its[(l + (k : Int) * st).toNat]?)
  | 0, k => .nil
  | n + 1, k => by
    rw [List.range'_succ, List.filterMap_cons, List.filterMap_cons]
    have ih := vals_pick r l st n (k + 1)
    cases hx : vs[(l + (k : Int) * st).toNat]? with
    | none =>
      have hv : its[(l + (k : Int) * st).toNat]? = none := by
        rw [List.getElem?_eq_none_iff] at hx ⊢
        rw [← r.length]; exact hx
      rw [hv]; exact ih
    | some d =>
      obtain ⟨v, hv, rv⟩ := r.get hx
      rw [hv]
      exact .cons rv ih
section
variable {prog : Program} {w : World} {A : Around} {E : Value → Shared → Prop} {s : Shared}
theorem applied3 {sl : Addr} {vl vu vs : Value} {lo hi : Option Int} {k : Int} {n : Nat} {Q : Int × Int × Nat → Shared → Prop} (hs : s.heap.IsSliceOf sl vl vu vs) (pl : IsPart vl lo) (pu : IsPart vu hi) (ps : IsPart vs (some k)) (h0 : k ≠ 0)
    (h : Q ((placesD n lo hi k).1, k, (placesD n lo hi k).2) s) : wpAny (model prog w) A (Builtin.Slice.sliceApplied (.ref sl) (pure (n : Int))) Q E s := by
  obtain ⟨os, e1, e2, e3⟩ := id hs
  unfold Builtin.Slice.sliceApplied Builtin.Slice.sliceFields
  refine wpAny_bind (wpAny_bind (wpAny_field e1 e3 (x := vl) rfl (wpAny_bind (wpAny_field e1 e3 (x := vu) rfl (wpAny_bind (wpAny_field e1 e3 (x := vs) rfl (wpAny_pure ?_)))))))
  refine wpAny_bind (HT.slicePart_ ps ?_)
  change wpAny _ _ (if (k == 0) = true then _ else _) _ _ s
  rw [if_neg (by simpa using h0)]
  exact wpAny_bind (HT.slicePart_ pl (wpAny_bind (HT.slicePart_ pu (wpAny_bind (wpAny_pure (wpAny_pure h))))))
theorem getT3 {t sl : Addr} {items : Array Value} {vl vu vs : Value} {lo hi : Option Int} {k : Int} {Q : Value → Shared → Prop} (ht : IsTup s.heap t items) (hs : s.heap.IsSliceOf sl vl vu vs) (pl : IsPart vl lo) (pu : IsPart vu hi) (ps : IsPart vs (some k)) (h0 : k ≠ 0) (h1 : k ≠ 1)
    (h : Q (.ref s.heap.objs.size) { s with heap := s.heap.push { cls := .type "tuple", data := .seq (pickL items.toList (placesD items.size lo hi k).1 (placesD items.size lo hi k).2 k).toArray } })
    (hz : (placesD items.size lo hi k).2 ≤ sizeLine) : wpAny (model prog w) A (getItem (.ref t) (.ref sl)) Q E s := by
  have ok : sizeOk (.seq (pickL items.toList (placesD items.size lo hi k).1 (placesD items.size lo hi k).2 k).toArray) := by
    show (pickL items.toList (placesD items.size lo hi k).1 (placesD items.size lo hi k).2 k).toArray.size ≤ sizeLine
    rw [List.size_toArray]
    exact Nat.le_trans (pickL_len ..) hz
  obtain ⟨os, e1, e2, e3⟩ := id hs
  have ty : s.TypeIs (.ref sl) "slice" := ⟨os, e1, e2⟩
  unfold getItem
  try with_reducible refine wpAny_holding ?_
  first | refine wpAny_bind (wpAny_pure ?_) | skip
  refine wpAny_bind (wpAny_sequenceKey ht.typeIs (by decide) (wpAny_bind (wpAny_callSpecial?_slot (name := Str.ofString "__getitem__") ht.typeIs PyProof.Rows.slot_tuple_getitem (wpAny_call_entry PyProof.Rows.slot_tuple_getitem ht.typeIs entry_tuple_getitem ?_ (args_tuple_getitem _ _)))))
  change wpAny _ _ (Builtin.Tuple.tupleItemsOf (.ref t) >>= fun _ => _) _ _ s
  refine wpAny_bind (tupleItemsOf_ ht (wpAny_bind (wpAny_typeOf ty ?_)))
  rw [if_pos (by decide)]
  refine wpAny_bind (applied3 hs pl pu ps h0 ?_)
  have no : ¬ (((placesD items.size lo hi k).1 == 0 && k == 1 && (placesD items.size lo hi k).2 == items.size) = true) := by
    intro q
    rw [Bool.and_eq_true, Bool.and_eq_true] at q
    exact h1 (eq_of_beq q.1.2)
  change wpAny _ _ (if ((placesD items.size lo hi k).1 == 0 && k == 1 && (placesD items.size lo hi k).2 == items.size) = true then _ else _) _ _ s
  rw [if_neg no]
  have e : ((List.range (placesD items.size lo hi k).2).filterMap fun (m : Nat) => items[((placesD items.size lo hi k).1 + (m : Int) * k).toNat]?).toArray = (pickL items.toList (placesD items.size lo hi k).1 (placesD items.size lo hi k).2 k).toArray := by
    unfold pickL
    simp only [Array.getElem?_toList]
  rw [e]
  first
    | exact wpAny_bind (m := Builtin.Tuple.tupleExact _) (wpAny_newObj_type (wpAny_pure ⟨_, rfl, wpAny_pure h⟩) ok)
    | exact wpAny_bind (m := Builtin.Tuple.tupleExact _) (wpAny_newObj_type (wpAny_bind (wpAny_pure (wpAny_pure ⟨_, rfl, wpAny_pure h⟩))) ok)
    | exact wpAny_bind (wpAny_bind (m := Builtin.Tuple.tupleExact _) (wpAny_newObj_type (wpAny_pure (wpAny_pure ⟨_, rfl, wpAny_pure h⟩)) ok))
    | exact wpAny_bind (wpAny_bind (m := Builtin.Tuple.tupleExact _) (wpAny_newObj_type (wpAny_pure ⟨_, rfl, wpAny_pure h⟩) ok))
end
theorem de_slice3 {X : Cx} {e : Expr} {lo hi : Option Expr} {st : Expr} {fe : FE} {fl fh fs : FO} {p2 pos : Pos} (he : DE X e fe) (hl : DO X lo fl) (hu : DO X hi fh) (hst : DO X (some st) fs) : DE X (.Subscript e (.Slice lo hi (some st) p2) pos) (fSl3 fe fl fh fs) := .of (by
  intro pins s σ H Q I h
  obtain ⟨ι, σd, g, d, g', G0, S0, h, p⟩ := h
  obtain ⟨⟨d1, g1⟩, h1, h⟩ := bind_some h
  obtain ⟨⟨l, g2⟩, h2, h⟩ := bind_some h
  obtain ⟨⟨u, g3⟩, h3, h⟩ := bind_some h
  obtain ⟨⟨k, g4⟩, h4, h⟩ := bind_some h
  refine Subscript_ (thn (he.un pins s σ H (fun x H1 => ∃ ι1, Ext H ι H1 ι1 ∧ RelG X.K H1 ι1 g1 ∧ RelS X.K H1 ι1 σd σ ∧ Rel X.K H1 ι1 d1 x) I ⟨ι, σd, g, d1, g1, G0, S0, h1, fun H1 ι1 v e1 G1 r1 => ⟨ι1, e1, G1, S0.ext e1, r1⟩⟩) fun v s1 ⟨x, H1, I1, r1, ι1, e1, G1, S1, rd⟩ => ?_)
  refine wpAny_Slice (thn (hl.un pins s1 σ H1 (fun o H2 => o = l ∧ ∃ ι2, Ext H1 ι1 H2 ι2 ∧ RelG X.K H2 ι2 g2) I1 ⟨ι1, σd, g1, l, g2, G1, S1, h2, fun H2 ι2 e2 G2 => ⟨rfl, ι2, e2, G2⟩⟩) fun vl s2 ⟨o, H2, I2, pl, eo, ι2, e2, G2⟩ => ?_)
  subst eo
  refine thn (hu.un pins s2 σ H2 (fun o H3 => o = u ∧ ∃ ι3, Ext H2 ι2 H3 ι3 ∧ RelG X.K H3 ι3 g3) I2 ⟨ι2, σd, g2, u, g3, G2, S1.ext e2, h3, fun H3 ι3 e3 G3 => ⟨rfl, ι3, e3, G3⟩⟩) fun vu s3 ⟨o', H3, I3, pu, eo, ι3, e3, G3⟩ => ?_
  subst eo
  refine thn (hst.un pins s3 σ H3 (fun o H4 => o = k ∧ ∃ ι4, Ext H3 ι3 H4 ι4 ∧ RelG X.K H4 ι4 g4) I3 ⟨ι3, σd, g3, k, g4, G3, S1.ext (e2.trans e3), h4, fun H4 ι4 e4 G4 => ⟨rfl, ι4, e4, G4⟩⟩) fun vs s4 ⟨o'', H4, I4, ps, eo, ι4, e4, G4⟩ => ?_
  subst eo
  have rd' := Rel.ext (e2.trans (e3.trans e4)) _ rd
  obtain ⟨xs, kk, rfl, ek, z0, z1, z2, rfl, rfl⟩ := oSl3_some h
  cases ek
  simp only [Rel] at rd'
  obtain ⟨a, ws, rfl, hq, hr⟩ := rd'
  cases r1
  have I5 : L2.Inv X pins σ H4 { s4 with heap := s4.heap.push { cls := .type "slice", data := .fields #[vl, vu, vs] } } := I4.kept (t' := s4.toks) fun b ob q => Heap.get?_push_of_some _ q
  obtain ⟨its, rv, pt, hz⟩ := I5.tuple hq.sq
  have hlen : its.toArray.size = xs.length := by rw [List.size_toArray, ← rv.length, ← hr.length]
  change wpAny (model X.prog X.w) X.A (subscriptTail e (.Slice lo hi (some st) p2) (.ref a) (.ref s4.heap.objs.size)) (EP X pins σ Q) X.xe { s4 with heap := s4.heap.push { cls := .type "slice", data := .fields #[vl, vu, vs] } }
  refine tail_any (ops := [.ref a, .ref s4.heap.objs.size]) pt.typeIs PyProof.Rows.slot_tuple_getitem.lookup ?_ (by with_unfolding_all rfl)
  refine getT3 pt (Heap.IsSliceOf.new ..) pl pu ps z0 z1 ?_ (by rw [hlen]; exact szOk.le z2)
  rw [hlen]
  have hp : ∀ {α : Type} (ys : List α) (l : Int) (n : Nat) (c : Int), pickL ys l n c = (List.range' 0 n).filterMap fun (k : Nat) => ys[(l + (k : Int) * c).toNat]? := fun ys l n c => by unfold pickL; rw [List.range_eq_range']
  have hfr := I5.fresh
  refine ⟨.ref _, _, I5.laid (t' := s4.toks) (o := .tup (pickL ws (placesD xs.length o o' kk).1 (placesD xs.length o o' kk).2 kk)) (fun b ob q => Heap.get?_push_of_some _ q) (Nat.le_refl _) ⟨Nat.le_trans (pickL_len ..) (szOk.le z2), _, by rw [hp, hp]; exact vals_pick rv _ _ _ _, IsTup.new _ _⟩, rfl, ?_⟩
  refine p _ ι4 _ ((e1.trans (e2.trans (e3.trans e4))).trans (Ext.lay hfr)) (G4.lay hfr) ?_
  simp only [Rel]
  refine ⟨_, _, rfl, .inl ⟨.inl upd_same, G4.fresh hfr⟩, ?_⟩
  rw [hp, hp]
  exact RelL.ext (Ext.lay hfr) _ (RelL.pick hr _ _ _ _))
@[simp] theorem ev_fSl3 {fa : FE} {fl fh fs : FO} {σ : Sg} {g : G} : fSl3 fa fl fh fs σ g = (fa σ g).bind fun r => (fl σ r.2).bind fun l => (fh σ l.2).bind fun h => (fs σ h.2).bind fun k => oSl3 r.1 l.1 h.1 k.1 k.2 := rfl
end L3
namespace L3
open PySem PySem.Spec PyProof.Rows L2
section
variable {X : Cx}
section
open SeqAt
variable {pins : List (Addr × Obj)} {σ : L2.St} {H : Hp} {s : Shared} {ι : Ix}
theorem rcNe_D (I : Inv X pins σ H s) : ∀ (d1 d2 : D) {A : Around} {x y : V} {u v : Value}, flat d1 = true → flat d2 = true → Rel X.K H ι d1 x → Rel X.K H ι d2 y → RelV x u → RelV y v → A.units + dep d1 < cLine → RcNeAt A s u v (!eqD d1 d2)
  | .non, d2, A, x, y, u, v, _, f2, r1, r2, ru, rv, hu => by
    simp only [Rel] at r1; subst r1; cases ru
    cases d2 with
    | non => simp only [Rel] at r2; subst r2; cases rv; simp only [eqD, Bool.not_true, Bool.not_false]; exact .none_none
    | bl b => simp only [Rel] at r2; subst r2; cases rv; simp only [eqD, Bool.not_true, Bool.not_false]; exact .none_bool b
    | int b => simp only [Rel] at r2; subst r2; obtain ⟨t, rfl⟩ := rv; simp only [eqD, Bool.not_true, Bool.not_false]; exact .none_int b t
    | str b => simp only [Rel] at r2; subst r2; obtain ⟨t, rfl⟩ := rv; simp only [eqD, Bool.not_true, Bool.not_false]; exact .none_str b t
    | tup ys => simp only [Rel] at r2; obtain ⟨a', ws, rfl, hq, hr⟩ := r2; cases rv; obtain ⟨its, _, ht, _⟩ := I.tuple hq.sq; simp only [eqD, Bool.not_true, Bool.not_false]; exact .none_tuple ht (by omega)
    | lst ys => simp only [Rel] at r2; obtain ⟨a', ws, rfl, hq, hr⟩ := r2; cases rv; obtain ⟨its, _, ht, _⟩ := I.list hq.sq; simp only [eqD, Bool.not_true, Bool.not_false]; exact .none_list ht.isList (by omega)
    | _ => cases f2
  | .bl a, d2, A, x, y, u, v, _, f2, r1, r2, ru, rv, hu => by
    simp only [Rel] at r1; subst r1; cases ru
    cases d2 with
    | non => simp only [Rel] at r2; subst r2; cases rv; simp only [eqD, Bool.not_true, Bool.not_false]; exact .bool_none a
    | bl b => simp only [Rel] at r2; subst r2; cases rv; simp only [eqD, Bool.not_true, Bool.not_false]; exact .bool_bool a b
    | int b => simp only [Rel] at r2; subst r2; obtain ⟨t, rfl⟩ := rv; simp only [eqD, Bool.not_true, Bool.not_false]; exact .bool_int a b t
    | str b => simp only [Rel] at r2; subst r2; obtain ⟨t, rfl⟩ := rv; simp only [eqD, Bool.not_true, Bool.not_false]; exact .bool_str a b t
    | tup ys => simp only [Rel] at r2; obtain ⟨a', ws, rfl, hq, hr⟩ := r2; cases rv; obtain ⟨its, _, ht, _⟩ := I.tuple hq.sq; simp only [eqD, Bool.not_true, Bool.not_false]; exact .bool_tuple a ht (by omega)
    | lst ys => simp only [Rel] at r2; obtain ⟨a', ws, rfl, hq, hr⟩ := r2; cases rv; obtain ⟨its, _, ht, _⟩ := I.list hq.sq; simp only [eqD, Bool.not_true, Bool.not_false]; exact .bool_list a ht.isList (by omega)
    | _ => cases f2
  | .int a, d2, A, x, y, u, v, _, f2, r1, r2, ru, rv, hu => by
    simp only [Rel] at r1; subst r1; obtain ⟨t0, rfl⟩ := ru
    cases d2 with
    | non => simp only [Rel] at r2; subst r2; cases rv; simp only [eqD, Bool.not_true, Bool.not_false]; exact .int_none a t0
    | bl b => simp only [Rel] at r2; subst r2; cases rv; simp only [eqD, Bool.not_true, Bool.not_false]; exact .int_bool a t0 b
    | int b => simp only [Rel] at r2; subst r2; obtain ⟨t, rfl⟩ := rv; simp only [eqD, Bool.not_true, Bool.not_false]; exact .int_int a t0 b t
    | str b => simp only [Rel] at r2; subst r2; obtain ⟨t, rfl⟩ := rv; simp only [eqD, Bool.not_true, Bool.not_false]; exact .int_str a t0 b t
    | tup ys => simp only [Rel] at r2; obtain ⟨a', ws, rfl, hq, hr⟩ := r2; cases rv; obtain ⟨its, _, ht, _⟩ := I.tuple hq.sq; simp only [eqD, Bool.not_true, Bool.not_false]; exact .int_tuple a t0 ht (by omega)
    | lst ys => simp only [Rel] at r2; obtain ⟨a', ws, rfl, hq, hr⟩ := r2; cases rv; obtain ⟨its, _, ht, _⟩ := I.list hq.sq; simp only [eqD, Bool.not_true, Bool.not_false]; exact .int_list a t0 ht.isList (by omega)
    | _ => cases f2
  | .str a, d2, A, x, y, u, v, _, f2, r1, r2, ru, rv, hu => by
    simp only [Rel] at r1; subst r1; obtain ⟨t0, rfl⟩ := ru
    cases d2 with
    | non => simp only [Rel] at r2; subst r2; cases rv; simp only [eqD, Bool.not_true, Bool.not_false]; exact .str_none a t0
    | bl b => simp only [Rel] at r2; subst r2; cases rv; simp only [eqD, Bool.not_true, Bool.not_false]; exact .str_bool a t0 b
    | int b => simp only [Rel] at r2; subst r2; obtain ⟨t, rfl⟩ := rv; simp only [eqD, Bool.not_true, Bool.not_false]; exact .str_int a t0 b t
    | str b => simp only [Rel] at r2; subst r2; obtain ⟨t, rfl⟩ := rv; simp only [eqD, Bool.not_true, Bool.not_false]; exact .str_str a t0 b t
    | tup ys => simp only [Rel] at r2; obtain ⟨a', ws, rfl, hq, hr⟩ := r2; cases rv; obtain ⟨its, _, ht, _⟩ := I.tuple hq.sq; simp only [eqD, Bool.not_true, Bool.not_false]; exact .str_tuple a t0 ht (by omega)
    | lst ys => simp only [Rel] at r2; obtain ⟨a', ws, rfl, hq, hr⟩ := r2; cases rv; obtain ⟨its, _, ht, _⟩ := I.list hq.sq; simp only [eqD, Bool.not_true, Bool.not_false]; exact .str_list a t0 ht.isList (by omega)
    | _ => cases f2
  | .tup xs, d2, A, x, y, u, v, f1, f2, r1, r2, ru, rv, hu => by
    simp only [Rel] at r1; obtain ⟨a, vs, rfl, hq, hr⟩ := r1; cases ru
    obtain ⟨its, rits, ht, _⟩ := I.tuple hq.sq
    simp only [dep] at hu
    cases d2 with
    | non => simp only [Rel] at r2; subst r2; cases rv; simp only [eqD, Bool.not_true, Bool.not_false]; exact .tuple_none ht (by omega)
    | bl b => simp only [Rel] at r2; subst r2; cases rv; simp only [eqD, Bool.not_true, Bool.not_false]; exact .tuple_bool b ht (by omega)
    | int b => simp only [Rel] at r2; subst r2; obtain ⟨t, rfl⟩ := rv; simp only [eqD, Bool.not_true, Bool.not_false]; exact .tuple_int b t ht (by omega)
    | str b => simp only [Rel] at r2; subst r2; obtain ⟨t, rfl⟩ := rv; simp only [eqD, Bool.not_true, Bool.not_false]; exact .tuple_str b t ht (by omega)
    | tup ys =>
      simp only [Rel] at r2; obtain ⟨a', ws, rfl, hq', hr'⟩ := r2; cases rv
      obtain ⟨its', rits', ht', _⟩ := I.tuple hq'.sq
      simp only [eqD, eqDs_all]
      have l1 : xs.length = its.toArray.size := by rw [List.size_toArray, ← rits.length]; exact hr.length
      have l2 : ys.length = its'.toArray.size := by rw [List.size_toArray, ← rits'.length]; exact hr'.length
      rw [l1, l2]
      refine .tuples ht ht' (by omega) fun j h1 h2 => ?_
      have := eqAts_D I xs ys (A := A.in1) f1 f2 hr hr' rits rits' (by rw [in1_units]; omega) j (by simpa using h1) (by simpa using h2)
      simpa using this
    | lst ys =>
      simp only [Rel] at r2; obtain ⟨a', ws, rfl, hq', hr'⟩ := r2; cases rv
      obtain ⟨its', rits', ht', _⟩ := I.list hq'.sq
      simp only [eqD, Bool.not_true, Bool.not_false]; exact .tuple_list ht ht'.isList (by omega)
    | _ => cases f2
  | .lst xs, d2, A, x, y, u, v, f1, f2, r1, r2, ru, rv, hu => by
    simp only [Rel] at r1; obtain ⟨a, vs, rfl, hq, hr⟩ := r1; cases ru
    obtain ⟨its, rits, ht, _⟩ := I.list hq.sq
    simp only [dep] at hu
    cases d2 with
    | non => simp only [Rel] at r2; subst r2; cases rv; simp only [eqD, Bool.not_true, Bool.not_false]; exact .list_none ht.isList (by omega)
    | bl b => simp only [Rel] at r2; subst r2; cases rv; simp only [eqD, Bool.not_true, Bool.not_false]; exact .list_bool b ht.isList (by omega)
    | int b => simp only [Rel] at r2; subst r2; obtain ⟨t, rfl⟩ := rv; simp only [eqD, Bool.not_true, Bool.not_false]; exact .list_int b t ht.isList (by omega)
    | str b => simp only [Rel] at r2; subst r2; obtain ⟨t, rfl⟩ := rv; simp only [eqD, Bool.not_true, Bool.not_false]; exact .list_str b t ht.isList (by omega)
    | lst ys =>
      simp only [Rel] at r2; obtain ⟨a', ws, rfl, hq', hr'⟩ := r2; cases rv
      obtain ⟨its', rits', ht', _⟩ := I.list hq'.sq
      simp only [eqD, eqDs_all]
      have l1 : xs.length = its.toArray.size := by rw [List.size_toArray, ← rits.length]; exact hr.length
      have l2 : ys.length = its'.toArray.size := by rw [List.size_toArray, ← rits'.length]; exact hr'.length
      rw [l1, l2]
      by_cases hs : its.toArray.size = its'.toArray.size
      · have e0 : (its.toArray.size == its'.toArray.size) = true := by simpa using hs
        rw [e0, Bool.and_true, ← hs, Nat.min_self]
        refine .lists ht.isList ht'.isList hs (by omega) fun j h1 h2 => ?_
        have := eqAts_D I xs ys (A := A.in1) f1 f2 hr hr' rits rits' (by rw [in1_units]; omega) j (by simpa using h1) (by simpa using h2)
        simpa using this
      · have e0 : (its.toArray.size == its'.toArray.size) = false := by simpa using hs
        rw [e0, Bool.and_false, Bool.not_false]
        exact .lists_lengths ht.isList ht'.isList (by simpa using hs) (by omega)
    | tup ys =>
      simp only [Rel] at r2; obtain ⟨a', ws, rfl, hq', hr'⟩ := r2; cases rv
      obtain ⟨its', rits', ht', _⟩ := I.tuple hq'.sq
      simp only [eqD, Bool.not_true, Bool.not_false]; exact .list_tuple ht.isList ht' (by omega)
    | _ => cases f2
  | .edc, d2, A, x, y, u, v, f1, _, _, _, _, _, _ => by cases f1
  | .ref _, d2, A, x, y, u, v, f1, _, _, _, _, _, _ => by cases f1
end
noncomputable def oNeD (d1 d2 : D) (g : G) : Option (D × G) := if (flat d1 && flat d2 && decide (dep d1 ≤ 60)) = true then some (.bl (!eqD d1 d2), g) else none
theorem od_neD (hu : X.A.units + 64 < cLine) : OpR X (compareOp .NotEq) (rD2 X.K oNeD) := by
  intro pins s σ H x y v u Q I rx ry q
  obtain ⟨ι, g, d1, d2, d, g', G0, r1, r2, q, p⟩ := q
  unfold oNeD at q
  split at q
  · rename_i z
    simp only [Bool.and_eq_true, decide_eq_true_eq] at z
    cases q
    exact rcNe_D I d1 d2 z.1.1 z.1.2 r1 r2 rx ry (by omega) _ _ _ _ ⟨.bl _, H, I, rfl, p H ι _ Ext.refl G0 (by simp [Rel])⟩
  · cases q
end
@[simp] theorem ev_oNeD {d1 d2 : D} {g : G} : oNeD d1 d2 g = if (flat d1 && flat d2 && decide (dep d1 ≤ 60)) = true then some (.bl (!eqD d1 d2), g) else none := rfl
end L3
namespace L3
open PySem PySem.Spec PyProof.Rows L2
mutual
noncomputable def toPy : D → PyData
  | .non => .none
  | .bl b => .bool b
  | .int i => .int i
  | .str x => .str x
  | .tup xs => .tuple (toPys xs)
  | .lst xs => .list (toPys xs)
  | .edc => .none
  | .ref _ => .none
noncomputable def toPys : List D → List PyData
  | [] => []
  | d :: ds => toPy d :: toPys ds
end
section
variable {X : Cx}
section
variable {pins : List (Addr × Obj)} {σ : L2.St} {H : Hp} {s : Shared} {ι : Ix}
end
noncomputable def rpOk (d : D) : Bool := flat d && (toPy d).showable && decide ((toPy d).depth ≤ 60) && szOk (toPy d).shown.length
noncomputable def bRepr (ds : List D) (g : G) : Option (D × G) := match ds with | [d] => if rpOk d = true then some (.str (toPy d).shown, g) else none | _ => none
end
end L3
namespace L3
open PySem PySem.Spec PyProof.Rows L2
noncomputable def intsD : List D → Option (List Int)
  | [] => some []
  | .int i :: ds => (intsD ds).map (i :: ·)
  | _ => none
theorem intsD_cons {d : D} {ds : List D} {ns : List Int} (h : intsD (d :: ds) = some ns) : ∃ i ms, d = .int i ∧ ns = i :: ms ∧ intsD ds = some ms := by
  cases d with
  | int i =>
    simp only [intsD, Option.map_eq_some_iff] at h
    obtain ⟨ms, h1, rfl⟩ := h
    exact ⟨i, ms, rfl, rfl, h1⟩
  | _ => simp [intsD] at h
theorem intsD_are {K H ι} : ∀ {xs : List D} {vs : List V} {us : List Value} {ns : List Int}, intsD xs = some ns → RelL K H ι xs vs → Vals vs us → IntsAre us ns
  | [], vs, us, ns, h, r, rv => by simp only [RelL] at r; subst r; cases rv; cases h; exact .nil
  | d :: ds, vs, us, ns, h, r, rv => by
    obtain ⟨i, ms, rfl, rfl, h1⟩ := intsD_cons h
    simp only [RelL, Rel] at r
    obtain ⟨v, vr, rfl, rfl, hr⟩ := r
    cases rv with
    | cons r0 rr =>
      obtain ⟨t, rfl⟩ := r0
      exact .cons i t (intsD_are h1 hr rr)
theorem ints_items : ∀ {us : List Value} {ns : List Int}, IntsAre us ns → ∃ xs : List (Int × Tok), us = xs.map (fun p => Value.int p.1 p.2) ∧ ns = xs.map (·.1)
  | _, _, .nil => ⟨[], rfl, rfl⟩
  | _, _, .cons n t h => by
    obtain ⟨xs, rfl, rfl⟩ := ints_items h
    exact ⟨(n, t) :: xs, rfl, rfl⟩
section
variable {X : Cx}
noncomputable def bMinL (ds : List D) (g : G) : Option (D × G) := match ds with | [d] => (lstOf d g).bind fun xs => (intsD xs).bind fun ns => ns.min?.map fun m => (.int m, g) | _ => none
theorem cd_minL (hh : X.A.handled = none) : CallR X (.builtin "min") (rDL X.K bMinL) := by
  intro pins s σ H xs us Q I r q
  obtain ⟨ι, g, ds, d, g', G0, r1, q, p⟩ := q
  cases ds with
  | nil => cases q
  | cons e dsr =>
  cases dsr with
  | cons _ _ => cases q
  | nil =>
    simp only [bMinL] at q
    obtain ⟨ys, hx, q⟩ := bind_some q
    obtain ⟨ns, hn, q⟩ := bind_some q
    obtain ⟨m, hm, q⟩ := Option.map_eq_some_iff.mp q
    cases q
    simp only [RelL] at r1
    obtain ⟨v, _, rfl, rv, rfl⟩ := r1
    obtain ⟨a, vs, rfl, hq, hr⟩ := lstOf_sq G0 rv hx
    cases r with
    | cons ru rr =>
      cases rr
      cases ru
      obtain ⟨its, rits, ht, _⟩ := I.list hq
      obtain ⟨ps, rfl, rfl⟩ := ints_items (intsD_are hn hr rits)
      obtain ⟨m1, m2⟩ := List.min?_eq_some_iff.mp hm
      have hi : (ps.map (fun p => Value.int p.1 p.2)).toArray = intItems ps.toArray := by simp [intItems]
      have hl := ht.isList
      rw [hi] at hl
      have hne : 0 < ps.toArray.size := by
        cases ps with
        | nil => simp at m1
        | cons _ _ => simp
      refine min_intList hh hl hne fun v h' tk hv hk => ?_
      obtain ⟨t, rfl⟩ := intItems_at hv
      obtain ⟨h1, h2⟩ := argBest_lt (numAt ps.toArray) (ps.toArray.size - 1)
      have e : numAt ps.toArray (argBest (fun i j => decide (numAt ps.toArray i < numAt ps.toArray j)) (ps.toArray.size - 1)) = m := by
        have key : ∀ j, j < ps.length → numAt ps.toArray j = (ps.map (·.1)).getD j 0 := fun j hj => by rw [numAt_eq]
        have l1 : numAt ps.toArray (argBest (fun i j => decide (numAt ps.toArray i < numAt ps.toArray j)) (ps.toArray.size - 1)) ∈ ps.map (·.1) := by
          rw [numAt_eq]; exact getD_mem (by rw [List.length_map]; simp at hne h1 ⊢; omega)
        refine Int.le_antisymm ?_ (m2 _ l1)
        obtain ⟨j, hj, ej⟩ := mem_getD m1
        rw [← ej]
        have := h2 j (by simp at hj ⊢; omega)
        rw [numAt_eq] at this
        rw [numAt_eq]
        simpa [numAt_eq] using this
      rw [e]
      exact ⟨.int m, H, I.kept hk, ⟨_, rfl⟩, p H ι _ Ext.refl G0 (by simp [Rel])⟩
noncomputable def bSum (ds : List D) (g : G) : Option (D × G) := match ds with | [d] => (lstOf d g).bind fun xs => (intsD xs).map fun ns => (.int ns.sum, g) | _ => none
theorem cd_sum (hh : X.A.handled = none) : CallR X (.builtin "sum") (rDL X.K bSum) := by
  intro pins s σ H xs us Q I r q
  obtain ⟨ι, g, ds, d, g', G0, r1, q, p⟩ := q
  cases ds with
  | nil => cases q
  | cons e dsr =>
  cases dsr with
  | cons _ _ => cases q
  | nil =>
    simp only [bSum] at q
    obtain ⟨ys, hx, q⟩ := bind_some q
    obtain ⟨ns, hn, q⟩ := Option.map_eq_some_iff.mp q
    cases q
    simp only [RelL] at r1
    obtain ⟨v, _, rfl, rv, rfl⟩ := r1
    obtain ⟨a, vs, rfl, hq, hr⟩ := lstOf_sq G0 rv hx
    cases r with
    | cons ru rr =>
      cases rr
      cases ru
      obtain ⟨its, rits, ht, _⟩ := I.list hq
      obtain ⟨ps, rfl, rfl⟩ := ints_items (intsD_are hn hr rits)
      have hi : (ps.map (fun p => Value.int p.1 p.2)).toArray = intItems ps.toArray := by simp [intItems]
      have hl := ht.isList
      rw [hi] at hl
      refine sum_intListG hh hl fun h' tk t' hk => ?_
      rw [preSum_eq, List.take_of_length_le (by simp)]
      exact ⟨.int _, H, I.kept hk, ⟨_, rfl⟩, p H ι _ Ext.refl G0 (by simp [Rel])⟩
noncomputable def bSorted (ds : List D) (g : G) : Option (D × G) := match ds with | [d] => (lstOf d g).bind fun xs => (intsD xs).bind fun ns => if ns.length < 64 then some (.lst ((PySem.W.sortI ns).map .int), g) else none | _ => none
end
end L3
namespace L3
open PySem PySem.Spec PyProof.Rows L2
section
variable {X : Cx}
noncomputable def fPar3 (i j k : Nat) (fr : FA) : FS := fun σ g => (fr σ g).bind fun r => match r.1 with
  | [a, b, c] => some (.nx, ((σ.set i (some a)).set j (some b)).set k (some c), r.2)
  | _ => none
end
section
variable {σ : Sg} {g : G} {fr : FA}
@[simp] theorem ev_fPar3 {i j k : Nat} : fPar3 i j k fr σ g = (fr σ g).bind fun r => match r.1 with
  | [a, b, c] => some (.nx, ((σ.set i (some a)).set j (some b)).set k (some c), r.2)
  | _ => none := rfl
@[simp] theorem ev_bRepr {d : D} : bRepr [d] g = if rpOk d = true then some (.str (toPy d).shown, g) else none := rfl
@[simp] theorem ev_bMinL {d : D} : bMinL [d] g = (lstOf d g).bind fun xs => (intsD xs).bind fun ns => ns.min?.map fun m => (.int m, g) := rfl
@[simp] theorem ev_bSum {d : D} : bSum [d] g = (lstOf d g).bind fun xs => (intsD xs).map fun ns => (.int ns.sum, g) := rfl
@[simp] theorem ev_bSorted {d : D} : bSorted [d] g = (lstOf d g).bind fun xs => (intsD xs).bind fun ns => if ns.length < 64 then some (.lst ((PySem.W.sortI ns).map .int), g) else none := rfl
end
end L3
namespace L3
open PySem PySem.Spec PyProof.Rows L2
theorem sum_intTupG {prog : Program} {w : World} {A : Around} {E : Value → Shared → Prop} {s : Shared} {l : Addr} {xs : Array (Int × Tok)} {Q : Value → Shared → Prop} (hh : A.handled = none) (hl : s.heap.IsTuple l (intItems xs))
    (h : ∀ h' tk t', (∀ b o, s.heap.get? b = some o → h'.get? b = some o) → Q (.int (preSum (numAt xs) xs.size) t') { s with heap := h', toks := tk }) :
    wpAny (model prog w) A (call (.builtin "sum") [.ref l]) Q E s := by
  have hlt : l < s.heap.objs.size := by obtain ⟨_, e, _⟩ := hl; exact Heap.lt_size e
  have hne : l ≠ s.heap.objs.size := Nat.ne_of_lt hlt
  refine call_sum_walkG (wpAny_pyIter_tuple hl ?_)
  refine ⟨_, [s.heap.objs.size, l], [s.heap.objs.size], _, _, _, numAt xs, rfl, Walks.tuple (A := A.in1) hh _ l hne (intItems xs), ⟨⟨_, Heap.get?_push_size _ rfl, rfl, rfl⟩, hl.push _⟩, fun b hb => ?_, (fun _ _ => intItems_at), fun h' tk t' hk => ?_⟩
  · show b < (s.heap.push _).objs.size
    rw [Heap.size_push]
    rcases List.mem_cons.mp hb with rfl | hb
    · exact Nat.lt_succ_self _
    · rcases List.mem_cons.mp hb with rfl | hb
      · exact Nat.lt_succ_of_lt hlt
      · cases hb
  · have := h h' tk t' fun b o e => by
      refine hk b o (fun hm => ?_) (Heap.get?_push_of_some _ e)
      rcases List.mem_cons.mp hm with e1 | hm
      · exact absurd (e1 ▸ Heap.lt_size e) (Nat.lt_irrefl _)
      · cases hm
    simpa [intItems] using this
section
variable {X : Cx}
noncomputable def bSumS (ds : List D) (g : G) : Option (D × G) := match ds with
  | [.tup xs] => (intsD xs).map fun ns => (.int ns.sum, g)
  | ds => bSum ds g
theorem cd_sumS (hh : X.A.handled = none) : CallR X (.builtin "sum") (rDL X.K bSumS) := by
  intro pins s σ H xs us Q I r q
  obtain ⟨ι, g, ds, d, g', G0, r1, q, p⟩ := q
  unfold bSumS at q
  split at q
  · rename_i ys
    obtain ⟨ns, hn, q⟩ := Option.map_eq_some_iff.mp q
    cases q
    simp only [RelL, Rel] at r1
    obtain ⟨v, _, rfl, ⟨a, vs, rfl, hq, hr⟩, rfl⟩ := r1
    cases r with
    | cons ru rr =>
      cases rr
      cases ru
      obtain ⟨its, rits, ht, _⟩ := I.tuple hq.sq
      obtain ⟨ps, rfl, rfl⟩ := ints_items (intsD_are hn hr rits)
      have hi : (ps.map (fun p => Value.int p.1 p.2)).toArray = intItems ps.toArray := by simp [intItems]
      rw [hi] at ht
      refine sum_intTupG hh ht fun h' tk t' hk => ?_
      rw [preSum_eq, List.take_of_length_le (by simp)]
      exact ⟨.int _, H, I.kept hk, ⟨_, rfl⟩, p H ι _ Ext.refl G0 (by simp [Rel])⟩
  · exact cd_sum hh pins s σ H xs us Q I r ⟨ι, g, _, d, g', G0, r1, q, p⟩
end
@[simp] theorem ev_bSumS_t {xs : List D} {g : G} : bSumS [.tup xs] g = (intsD xs).map fun ns => (.int ns.sum, g) := rfl
@[simp] theorem ev_bSumS_l {xs : List D} {g : G} : bSumS [.lst xs] g = (intsD xs).map fun ns => (.int ns.sum, g) := rfl
end L3
namespace L3
open PySem PySem.Spec PyProof.Rows L2 HT
section
variable {prog : Program} {w : World} {A : Around} {E : Value → Shared → Prop} {s : Shared}
end
section
variable {X : Cx}
noncomputable def oSlW (d : D) (lo hi : Option Int) (g : G) : Option (D × G) := match d with
  | .tup xs => some (.tup (cutD xs lo hi), g)
  | d => oSl d lo hi g
noncomputable def fSlW (fa : FE) (fl fh : FO) : FE := fun σ g => (fa σ g).bind fun r => (fl σ r.2).bind fun l => (fh σ l.2).bind fun h => oSlW r.1 l.1 h.1 h.2
end
@[simp] theorem ev_fSlW {fa : FE} {fl fh : FO} {σ : Sg} {g : G} : fSlW fa fl fh σ g = (fa σ g).bind fun r => (fl σ r.2).bind fun l => (fh σ l.2).bind fun h => oSlW r.1 l.1 h.1 h.2 := rfl
end L3
namespace L3
open PySem PySem.Spec PyProof.Rows L2
noncomputable def unlike (ns : List Int) : Nat := (firstMet (fun i => ns.getD i 0) ns.length).length
noncomputable def fLenSet (fe : FE) : FE := fun σ g => (fe σ g).bind fun r => (lstOf r.1 r.2).bind fun xs => (intsD xs).bind fun ns => if decide (ns.length ≤ 4000) = true then some (.int (unlike ns), r.2) else none
section
variable {X : Cx}
theorem od_shl : OpR X (binaryOp .LShift) (rD2 X.K (iOp okPow (fun i j => i * 2 ^ j.toNat))) := od_int op_shl fun i j h => by
  unfold okPow at h
  simp only [Bool.and_eq_true] at h
  have h2 := Nat.le_of_ble_eq_true h.2
  cases j with
  | ofNat n =>
    have h1 := Nat.le_of_ble_eq_true (show Nat.ble n 1000000 = true from h.1)
    exact ⟨Int.natCast_nonneg n, (by show ((n : Nat) : Int) ≤ 1000000; omega), (by omega)⟩
  | negSucc n => exact absurd h.1 (by simp)
end
@[simp] theorem ev_fLenSet {fe : FE} {σ : Sg} {g : G} : fLenSet fe σ g = (fe σ g).bind fun r => (lstOf r.1 r.2).bind fun xs => (intsD xs).bind fun ns => if decide (ns.length ≤ 4000) = true then some (.int (unlike ns), r.2) else none := rfl
end L3
namespace TL
open PySem PySem.Spec PySem.SeqAt PyProof.Rows
open AutoSeq1 (wpAny_loadPart')
open MeetsSeq MeetsSeq2 MeetsSeq3 SeqRoads2
noncomputable def LtAt (A : Around) (s : Shared) (y x : Value) (b : Bool) : Prop :=
  ∀ (prog : Program) (w : World) (E : Value → Shared → Prop) (Q : Value → Shared → Prop), Q (.bool b) s → wpAny (model prog w) A (richCompare .Lt y x) Q E s
inductive Lex (A : Around) (s : Shared) (fin : Bool) : List (Value × Value) → Bool → Prop
  | nil : Lex A s fin [] fin
  | eq {p q r k} : EqAt A s p q true → Lex A s fin r k → Lex A s fin ((p, q) :: r) k
  | ne {p q r k} : EqAt A s p q false → LtAt A s p q k → Lex A s fin ((p, q) :: r) k
theorem tuple_ltAt (l b : Addr) (items items2 : Array Value) (n n2 : Nat) (dd dd2 : Option Addr) (sl sl2 : Array (Option Value)) (k : Bool) :
    Meets (Builtin.«tuple.__lt__» ⟨[.ref l, .ref b], []⟩)
      (fun A R s => s.heap.get? l = some { cls := .type "tuple", dict := dd, data := .seq items n, slots := sl } ∧ s.heap.get? b = some { cls := .type "tuple", dict := dd2, data := .seq items2 n2, slots := sl2 } ∧
        Lex A.in1 s (decide (items.size < items2.size)) (items.toList.zip items2.toList) k ∧ R (.ok (.ret (.bool k))) s) :=
  .of_wp fun prog w A R s h => by
    obtain ⟨hp, g, d, tk, os⟩ := s; obtain ⟨hl, hb, he, h⟩ := h
    have f2 := AutoSeq1.sub_tuple_tuple
    wp_walk using wpAny_loadPart' hl, wpAny_loadPart' hb, wpAny_forIn_list _ (fun rest b s' => b.1 = none ∧ s' = ⟨hp, g, d, tk, os⟩ ∧ Lex A.in1 ⟨hp, g, d, tk, os⟩ (decide (items.size < items2.size)) rest k) _
    case turn =>
      rintro ⟨y, x⟩ rest b s' ⟨hb', rfl, hz⟩
      cases hz with
      | eq e1 e2 =>
        refine wpAny_bind (e1 prog w _ _ ?_)
        wp_walk
        exact ⟨rfl, rfl, e2⟩
      | ne e1 e2 =>
        refine wpAny_bind (e1 prog w _ _ ?_)
        simp only [Bool.not_false, if_true]
        refine wpAny_bind (wpAny_rule ?_)
        refine wpAny_bind (e2 prog w _ _ ?_)
        wp_walk
        exact ⟨_, rfl, h⟩
    case fin =>
      rintro ⟨b1, b2⟩ s' ⟨hb', rfl, hz⟩
      simp only at hb'
      subst hb'
      cases hz
      wp_walk
      exact ⟨_, rfl, by simpa [Builtin.Tuple.tupleCompareSizes] using h⟩
    case h =>
      exact ⟨rfl, rfl, he⟩
section
variable {A : Around} {s : Shared}
theorem LtAt.tuples {l b : Addr} {items items2 : Array Value} {k : Bool} (hl : s.heap.IsTuple l items) (hb : s.heap.IsTuple b items2) (hu : A.units < cLine)
    (he : Lex A.in1 s (decide (items.size < items2.size)) (items.toList.zip items2.toList) k) : LtAt A s (.ref l) (.ref b) k := fun prog w E Q h => by
  obtain ⟨⟨cls, dd, data, sl⟩, ho, hc, n, hd⟩ := id hl
  obtain ⟨⟨cls2, dd2, data2, sl2⟩, ho2, hc2, n2, hd2⟩ := id hb
  simp only at hc hd hc2 hd2
  subst hc hd hc2 hd2
  exact richCompare_meets_room (op := .Lt) ⟨_, ho, rfl⟩ ⟨_, ho2, rfl⟩ F.slot_tuple_lt F.entry_tuple_lt (F.args_tuple_lt_2 _ _) (tuple_ltAt l b items items2 n n2 dd dd2 sl sl2 k)
    ⟨ho, ho2, he, show Value.bool k ≠ Value.notImplemented ∧ Q (.bool k) s from ⟨(fun x => nomatch x), h⟩⟩ hu
theorem LtAt.ints (a b : Int) (t u : Tok) : LtAt A s (.int a t) (.int b u) (decide (a < b)) := fun prog w E Q h =>
  wpAny_richCompare_same (op := .Lt) (typeIs_int s a t) (typeIs_int s b u) slot_int_lt (call_int_lt ⟨(fun x => nomatch x), h⟩)
theorem LtAt.strs (a b : Str) (t u : Tok) : LtAt A s (.str a t) (.str b u) (decide (a.cps.toList < b.cps.toList)) := fun prog w E Q h =>
  wpAny_richCompare_same (op := .Lt) (typeIs_str s a t) (typeIs_str s b u) slot_str_lt (call_str_lt ⟨(fun x => nomatch x), h⟩)
end
open PySem.W
theorem asc_id {cmp : Nat → Nat → (Bool → Shared → Prop) → Shared → Prop} {N : Nat} {s : Shared} (h : ∀ i, i + 1 < N → ∀ C : Bool → Shared → Prop, C false s → cmp (i + 1) i C s) {G : Nat → Shared → Prop} :
    ∀ f n, 1 ≤ n → n + f = N → G N s → (kas_asc (List.toArray (List.range N)) f n).kasWp cmp G s
  | 0, n, _, e, g => by
    have : n = N := by omega
    subst this; exact g
  | f + 1, n, h1, e, g => by
    have e1 : (List.toArray (List.range N)).getD n 0 = n := by simp [Array.getD, show n < N by omega]
    have e2 : (List.toArray (List.range N)).getD (n - 1) 0 = n - 1 := by simp [Array.getD, show n - 1 < N by omega]
    show cmp ((List.toArray (List.range N)).getD n 0) ((List.toArray (List.range N)).getD (n - 1) 0) _ s
    rw [e1, e2]
    obtain ⟨m, rfl⟩ : ∃ m, n = m + 1 := ⟨n - 1, by omega⟩
    exact h m (by omega) _ (asc_id h f (m + 1 + 1) (by omega) (by omega) g)
theorem sort_id {cmp : Nat → Nat → (Bool → Shared → Prop) → Shared → Prop} {N : Nat} {s : Shared} (hN : 2 ≤ N) (h : ∀ i, i + 1 < N → ∀ C : Bool → Shared → Prop, C false s → cmp (i + 1) i C s) {G : Array Nat → Shared → Prop}
    (g : G (List.toArray (List.range N)) s) : (kas_sort N).kasWp cmp G s := by
  unfold kas_sort kas_count
  rw [KasT.kasWp_bind, KasT.kasWp_bind]
  refine asc_id h (N - 1) 1 (Nat.le_refl 1) (by omega) ?_
  simp only [beq_self_eq_true, if_true]
  show KasT.kasWp cmp (if N < N then _ else _) G s
  rw [if_neg (Nat.lt_irrefl N)]
  exact g
section
variable {prog : Program} {w : World} {A : Around} {E : Value → Shared → Prop} {s : Shared}
noncomputable def askHeap (h : Heap) (a : Addr) (vs : List Value) : Heap := ((h.update a (Obj.mapSeq fun _ => #[])).push (seqObj "tuple" vs.toArray 0)).push (seqObj "list" #[] 0)
theorem list_sort_id {a : Addr} {vs : List Value} {n : Nat} {κ : SortKind} {P : PySem.Fin → Shared → Prop} (ho : s.heap.get? a = some (seqObj "list" vs.toArray n)) (h64 : vs.length < 64)
    (hk : 2 ≤ vs.length → ∀ Q : SortKind → Shared → Prop, Q κ { s with heap := askHeap s.heap a vs } → wpAny (model prog w) A (keyKind' vs.toArray) Q E { s with heap := askHeap s.heap a vs })
    (hlt : ∀ i, i + 1 < vs.length → ∀ Q : Bool → Shared → Prop, Q false { s with heap := askHeap s.heap a vs } → wpAny (model prog w) A (keyLt' κ (vs.getD (i + 1) .none) (vs.getD i .none)) Q (fun _ _ => False) { s with heap := askHeap s.heap a vs })
    (h : P (.done (.ret .none)) { s with heap := sortedHeap s.heap a vs vs.toArray }) :
    wpAny (model prog w) A (Builtin.«list.sort» ⟨[.ref a], []⟩) P E s := by
  rw [list_sort_plain]
  have ha : a < s.heap.objs.size := Heap.lt_size ho
  refine wpAny_bind (listItems_at ho rfl ?_)
  refine wpAny_bind (listUpdate_at ho rfl ?_ (by rw [List.size_toArray, sizeLine_eq]; omega) (Nat.zero_le _))
  obtain ⟨e1, ho1⟩ : ∃ e1, (s.heap.update a (Obj.mapSeq fun _ => (#[] : Array Value))).get? a = some (seqObj "list" #[] e1) := ⟨_, get?_update_seq ho (fun _ => #[])⟩
  refine wpAny_bind (seqEpoch_at ho1 rfl ?_)
  refine wpAny_bind (wpAny_newTuple ?_ (by show vs.length ≤ _; rw [sizeLine_eq]; omega))
  refine wpAny_bind (wpAny_newList ?_ (Nat.zero_le _))
  refine wpAny_holding ?_
  have ho6 : (askHeap s.heap a vs).get? a = some (seqObj "list" #[] e1) := by
    unfold askHeap
    rw [Heap.get?_push_ne _ _ _ (by rw [size_push', Heap.size_update]; exact Nat.ne_of_lt (Nat.lt_succ_of_lt ha)), Heap.get?_push_ne _ _ _ (by rw [Heap.size_update]; exact Nat.ne_of_lt ha)]
    exact ho1
  show wpAny (model prog w) A _ P E { s with heap := askHeap s.heap a vs }
  dsimp only
  have hsz : vs.toArray.size = vs.length := by simp
  have hzz : (vs.toArray.zip vs.toArray).map (·.2) = vs.toArray := by
    apply Array.toList_inj.mp
    simp [List.map_snd_zip]
  have fin : ∀ st' : SortSt, (arrOf st').map (·.2) = vs.toArray → failedOf st' = none → wpAny (model prog w) A (do
      let touched := (← seqEpoch a) != e1
      Builtin.List.listUpdate (.ref a) fun _ => (arrOf st').map (·.2)
      if let some e := failedOf st' then rule "list.sort.comparison-raised"; throw e
      if touched then rule "list.sort.modified"; raiseError "ValueError" "list modified during sort"
      ret .none) P E { s with heap := askHeap s.heap a vs } := by
    intro st' e f
    refine wpAny_bind (seqEpoch_at ho6 rfl ?_)
    rw [e, f]
    refine wpAny_bind (listUpdate_at ho6 rfl ?_ (Nat.zero_le _) (by rw [hsz, sizeLine_eq]; omega))
    simp only [bne_self_eq_false, Bool.false_eq_true, if_false]
    exact wpAny_pure h
  by_cases h2 : vs.toArray.size < 2
  · rw [if_pos h2, if_pos h2]
    refine wpAny_bind (wpAny_pure ?_)
    rw [StateT.run_pure]
    refine wpAny_bind (wpAny_pure ?_)
    exact fin (SortSt.mk' general' (vs.toArray.zip vs.toArray) #[] 7 none) hzz rfl
  · rw [if_neg h2, if_neg h2]
    have h2' : 2 ≤ vs.length := by rw [hsz] at h2; omega
    refine wpAny_bind (hk h2' _ ?_)
    refine wpAny_bind (wpAny_mono (kat_run (Q := fun st' s' => s' = { s with heap := askHeap s.heap a vs } ∧ (arrOf st').map (·.2) = vs.toArray ∧ failedOf st' = none)
      (G := fun p s' => s' = { s with heap := askHeap s.heap a vs } ∧ p = List.toArray (List.range vs.length))
      rfl h2' h64 (fun p st' s' a1 a2 a3 a4 => ⟨a4.1, ?_, a3⟩) (sort_id h2' hlt ⟨rfl, rfl⟩)) ?_ fun _ _ x => x)
    · rw [a2, a4.2]
      apply Array.toList_inj.mp
      simp only [Array.toList_map, List.map_map]
      refine List.ext_getElem (by simp) fun i h1 h2 => ?_
      have hi : i < vs.length := by simpa using h2
      have e := kat_item (ks := vs) (vs := vs) rfl i
      simp [hi] at e ⊢
      rw [e]
    · rintro ⟨⟨⟩, st'⟩ s' ⟨rfl, hp, hf⟩
      exact fin st' hp hf
theorem askHeap_old {h : Heap} {a b : Addr} {vs : List Value} {o : Obj} (hb : b ≠ a) (ho : h.get? b = some o) : (askHeap h a vs).get? b = some o := by
  unfold askHeap
  have hlt := Heap.lt_size ho
  rw [Heap.get?_push_ne _ _ _ (by rw [size_push', Heap.size_update]; exact Nat.ne_of_lt (Nat.lt_succ_of_lt hlt)), Heap.get?_push_ne _ _ _ (by rw [Heap.size_update]; exact Nat.ne_of_lt hlt), Heap.get?_update_ne _ _ _ _ hb]
  exact ho
theorem sorted_id {l : Addr} {vs : List Value} {κ : SortKind} {Q : Value → Shared → Prop} (hl : s.heap.IsList l vs.toArray) (h64 : vs.length < 64)
    (hk : 2 ≤ vs.length → ∀ (h' : Heap), (∀ b o, s.heap.get? b = some o → h'.get? b = some o) → ∀ (E : Value → Shared → Prop) (R : SortKind → Shared → Prop), R κ { s with heap := h' } → wpAny (model prog w) A.in1.in1 (keyKind' vs.toArray) R E { s with heap := h' })
    (hlt : ∀ (h' : Heap), (∀ b o, s.heap.get? b = some o → h'.get? b = some o) → ∀ i, i + 1 < vs.length → ∀ R : Bool → Shared → Prop, R false { s with heap := h' } → wpAny (model prog w) A.in1.in1 (keyLt' κ (vs.getD (i + 1) .none) (vs.getD i .none)) R (fun _ _ => False) { s with heap := h' })
    (h : Q (.ref (s.heap.objs.size + 1)) { s with heap := sortedAll s.heap vs vs.toArray }) :
    wpAny (model prog w) A (call (.builtin "sorted") [.ref l]) Q E s := by
  refine Calls.call_function_entry kind_sorted plain_sorted entry_sorted (args_sorted1 _) ?_
  unfold Builtin.«sorted»
  refine wpAny_bind (m := checkCount "sorted" 1 1 _) (wpAny_pure ?_)
  refine wpAny_bind (collect_list hl ?_ (by rw [sizeLine_eq]; omega))
  refine wpAny_bind (wpAny_newList ?_ (by rw [sizeLine_eq]; omega))
  have hsz : ((s.heap.push (seqObj "list" #[] 0)).update s.heap.objs.size (Obj.mapSeq (· ++ vs.toArray))).objs.size = s.heap.objs.size + 1 := by
    rw [Heap.size_update, size_push']
  have hoL : (((s.heap.push (seqObj "list" #[] 0)).update s.heap.objs.size (Obj.mapSeq (· ++ vs.toArray))).push (seqObj "list" vs.toArray 0)).get? (s.heap.objs.size + 1) = some (seqObj "list" vs.toArray 0) := by
    rw [← hsz]; exact Heap.get?_push_size _ rfl
  have keep : ∀ b o, s.heap.get? b = some o → (((s.heap.push (seqObj "list" #[] 0)).update s.heap.objs.size (Obj.mapSeq (· ++ vs.toArray))).push (seqObj "list" vs.toArray 0)).get? b = some o := fun b o q => by
    have hlt : b < s.heap.objs.size := Heap.lt_size q
    rw [Heap.get?_push_ne _ _ _ (by rw [hsz]; exact Nat.ne_of_lt (Nat.lt_succ_of_lt hlt)), Heap.get?_update_ne _ _ _ _ (Nat.ne_of_lt hlt), Heap.get?_push_ne _ _ _ (Nat.ne_of_lt hlt)]
    exact q
  have keep2 : ∀ b o, s.heap.get? b = some o → (askHeap (((s.heap.push (seqObj "list" #[] 0)).update s.heap.objs.size (Obj.mapSeq (· ++ vs.toArray))).push (seqObj "list" vs.toArray 0)) (s.heap.objs.size + 1) vs).get? b = some o := fun b o q =>
    askHeap_old (Nat.ne_of_lt (Nat.lt_succ_of_lt (Heap.lt_size q))) (keep b o q)
  show wpAny _ _ _ _ _ { s with heap := ((s.heap.push (seqObj "list" #[] 0)).update s.heap.objs.size (Obj.mapSeq (· ++ vs.toArray))).push (seqObj "list" vs.toArray 0) }
  rw [hsz]
  refine wpAny_bind (wpAny_holding (wpAny_call_entry slot_list_sort ⟨_, hoL, rfl⟩ entry_list_sort (list_sort_id hoL h64 (fun z R r => hk z _ keep2 _ R r) (fun i z R r => hlt _ keep2 i z R r) ⟨_, rfl, ?_⟩) (args_list_sort _)))
  exact wpAny_pure ⟨_, rfl, h⟩
end
end TL
namespace L3
open PySem PySem.Spec PyProof.Rows L2
noncomputable def lt1 : D → D → Option Bool
  | .int a, .int b => some (decide (a < b))
  | .str a, .str b => some (decide (a.cps.toList < b.cps.toList))
  | _, _ => none
noncomputable def ltDs (fin : Bool) : List D → List D → Option Bool
  | x :: xs, y :: ys => if eqD x y = true then ltDs fin xs ys else lt1 x y
  | _, _ => some fin
noncomputable def rise1 (x y : D) : Bool := match x, y with
  | .tup (.tup a :: ra), .tup (.tup b :: rb) => flats a && flats b && decide (dep (.tup b) ≤ 50) && !eqD (.tup b) (.tup a) && (ltDs (decide (b.length < a.length)) b a == some false)
  | _, _ => false
noncomputable def rises : List D → Bool
  | x :: y :: r => rise1 x y && rises (y :: r)
  | _ => true
noncomputable def bSortT (ds : List D) (g : G) : Option (D × G) := match ds with | [d] => (lstOf d g).bind fun xs => if (decide (xs.length < 64) && rises xs) = true then some (.lst xs, g) else none | _ => none
section
variable {X : Cx} {pins : List (Addr × Obj)} {σ : L2.St} {H : Hp} {s : Shared} {ι : Ix}
theorem lt1_D {d e : D} {A : Around} {v w : V} {u z : Value} {k : Bool} (r1 : Rel X.K H ι d v) (r2 : Rel X.K H ι e w) (ru : RelV v u) (rz : RelV w z) (h : lt1 d e = some k) : TL.LtAt A s u z k := by
  cases d with
  | int a =>
    cases e with
    | int b =>
      simp only [lt1, Option.some.injEq] at h; subst h
      simp only [Rel] at r1 r2; subst r1 r2
      obtain ⟨t, rfl⟩ := ru; obtain ⟨t', rfl⟩ := rz
      exact .ints a b t t'
    | _ => simp [lt1] at h
  | str a =>
    cases e with
    | str b =>
      simp only [lt1, Option.some.injEq] at h; subst h
      simp only [Rel] at r1 r2; subst r1 r2
      obtain ⟨t, rfl⟩ := ru; obtain ⟨t', rfl⟩ := rz
      exact .strs a b t t'
    | _ => simp [lt1] at h
  | _ => simp [lt1] at h
theorem lex_D (I : Inv X pins σ H s) {fin k : Bool} : ∀ (xs ys : List D) {A : Around} {vs ws : List V} {us zs : List Value}, flats xs = true → flats ys = true → RelL X.K H ι xs vs → RelL X.K H ι ys ws → Vals vs us → Vals ws zs → A.units + deps xs < cLine →
    ltDs fin xs ys = some k → TL.Lex A s fin (us.zip zs) k
  | [], ys, A, vs, ws, us, zs, _, _, r1, _, ru, _, _, h => by
    simp only [RelL] at r1; subst r1; cases ru
    simp only [ltDs, Option.some.injEq] at h; subst h
    simp only [List.zip_nil_left]; exact .nil
  | d :: ds, [], A, vs, ws, us, zs, _, _, _, r2, _, rz, _, h => by
    simp only [RelL] at r2; subst r2; cases rz
    simp only [ltDs, Option.some.injEq] at h; subst h
    simp only [List.zip_nil_right]; exact .nil
  | d :: ds, e :: es, A, vs, ws, us, zs, f1, f2, r1, r2, ru, rz, hu, h => by
    have heq := eqAts_D I (d :: ds) (e :: es) (A := A) f1 f2 r1 r2 ru rz hu 0
    simp only [RelL] at r1 r2
    obtain ⟨v, vr, rfl, hv, hr⟩ := r1
    obtain ⟨w, wr, rfl, hw, hwr⟩ := r2
    simp only [flats, Bool.and_eq_true] at f1 f2
    simp only [deps] at hu
    cases ru with
    | cons ru0 rur =>
      cases rz with
      | cons rz0 rzr =>
        have heq := heq (by simp) (by simp)
        simp only [List.getElem_cons_zero, List.getElem?_cons_zero, Option.getD_some] at heq
        simp only [ltDs] at h
        simp only [List.zip_cons_cons]
        split at h
        · rename_i z
          rw [z] at heq
          exact .eq heq (lex_D I ds es f1.2 f2.2 hr hwr rur rzr (by omega) h)
        · rename_i z
          rw [Bool.eq_false_iff.mpr z] at heq
          exact .ne heq (lt1_D hv hw ru0 rz0 h)
theorem tt_of (I : Inv X pins σ H s) {a ra : List D} {v : V} {u : Value} (r : Rel X.K H ι (.tup (.tup a :: ra)) v) (ru : RelV v u) :
    ∃ p q its jts vs ws f, u = .ref p ∧ IsTup s.heap p (f :: its).toArray ∧ f = .ref q ∧ IsTup s.heap q jts.toArray ∧ RelL X.K H ι a vs ∧ Vals vs jts ∧ ws = vs ∧ Rel X.K H ι (.tup a) (.ref q) := by
  simp only [Rel] at r
  obtain ⟨p, vs, rfl, hq, hr⟩ := r
  cases ru
  obtain ⟨its, rits, ht, _⟩ := I.tuple hq.sq
  simp only [RelL] at hr
  obtain ⟨v1, vr, rfl, h1, h2⟩ := hr
  have h1' := h1
  simp only [Rel] at h1
  obtain ⟨q, ws, rfl, hq2, hr2⟩ := h1
  obtain ⟨jts, rjts, ht2, _⟩ := I.tuple hq2.sq
  cases rits with
  | cons ri rr =>
    cases ri
    exact ⟨p, q, _, jts, ws, ws, _, rfl, ht, rfl, ht2, hr2, rjts, rfl, h1'⟩
theorem rise_lt (I : Inv X pins σ H s) {x y : D} {vx vy : V} {ux uy : Value} (h : rise1 x y = true) (rx : Rel X.K H ι x vx) (ry : Rel X.K H ι y vy) (rux : RelV vx ux) (ruy : RelV vy uy) {A : Around} (hu : A.units + 60 < cLine) {prog : Program} {w : World} {E : Value → Shared → Prop} {Q : Bool → Shared → Prop} (q : Q false s) :
    wpAny (model prog w) A (keyLt' (tuples' false) uy ux) Q E s := by
  unfold rise1 at h
  split at h
  · rename_i a ra b rb
    simp only [Bool.and_eq_true, decide_eq_true_eq, Bool.not_eq_true', beq_iff_eq] at h
    obtain ⟨⟨⟨⟨fa, fb⟩, hd⟩, hne⟩, hlt⟩ := h
    obtain ⟨p1, q1, i1, j1, v1, _, f1, rfl, t1, rfl, t2, r1, rv1, rfl, R1⟩ := tt_of I rx rux
    obtain ⟨p2, q2, i2, j2, v2, _, f2, rfl, t3, rfl, t4, r2, rv2, rfl, R2⟩ := tt_of I ry ruy
    have rc := rcAt_D I (.tup b) (.tup a) (A := A) (by simpa [flat] using fb) (by simpa [flat] using fa) R2 R1 (u := .ref q2) (v := .ref q1) rfl rfl (by omega)
    rw [hne] at rc
    have eq := eqAt_of_rc rc (fun e => by
      cases e
      have ede := Rel.inj I (.tup b) (.tup a) (by simpa [flat] using fb) (by simpa [flat] using fa) R2 R1
      rw [ede] at hne
      rw [eqD_refl _ (by simpa [flat] using fa)] at hne
      exact hne.symm) (fun _ _ => by simp)
    obtain ⟨o1, ho1, hc1, n1, hd1⟩ := t1
    obtain ⟨o3, ho3, hc3, n3, hd3⟩ := t3
    refine PySem.W.kat_lt ho3 hd3 ho1 hd1 ?_
    show PySem.W.KatLex _ _ _ _ _ _ (((Value.ref q2) :: i2).zip ((Value.ref q1) :: i1)) 0 s
    rw [List.zip_cons_cons]
    refine PySem.W.kat_cons (eq _ _ _ _ (PySem.W.kat_no ?_))
    refine PySem.W.kat_one _ _ ?_
    simp only [dep] at hd
    have l1 : j1.toArray.size = a.length := by rw [List.size_toArray, ← rv1.length, r1.length]
    have l2 : j2.toArray.size = b.length := by rw [List.size_toArray, ← rv2.length, r2.length]
    refine TL.LtAt.tuples (k := false) t4 t2 (by omega) ?_ _ _ _ _ ?_
    · rw [l1, l2]
      exact lex_D I b a fb fa r2 r1 rv2 rv1 (by rw [in1_units]; omega) hlt
    · exact q
  · cases h
noncomputable def tt : D → Bool
  | .tup (.tup _ :: _) => true
  | _ => false
theorem rise1_tt {x y : D} (h : rise1 x y = true) : tt x = true ∧ tt y = true := by
  unfold rise1 at h
  split at h
  · exact ⟨rfl, rfl⟩
  · cases h
theorem rises_tt : ∀ (xs : List D), rises xs = true → 2 ≤ xs.length → ∀ d ∈ xs, tt d = true
  | [], _, h, _, _ => by simp at h
  | [_], _, h, _, _ => by simp at h
  | [x, y], h, _, d, hd => by
    simp only [rises, Bool.and_true] at h
    have := rise1_tt h
    simp only [List.mem_cons, List.not_mem_nil, or_false] at hd
    rcases hd with rfl | rfl
    · exact this.1
    · exact this.2
  | x :: y :: z :: r, h, _, d, hd => by
    have h' : (rise1 x y && rises (y :: z :: r)) = true := h
    rw [Bool.and_eq_true] at h'
    rcases List.mem_cons.mp hd with rfl | hd
    · exact (rise1_tt h'.1).1
    · exact rises_tt (y :: z :: r) h'.2 (by simp) d hd
theorem rises_at : ∀ (xs : List D) (i : Nat), rises xs = true → i + 1 < xs.length → ∃ x y, xs[i]? = some x ∧ xs[i + 1]? = some y ∧ rise1 x y = true
  | [], i, _, h => by simp at h
  | [_], i, _, h => by simp at h
  | x :: y :: r, 0, h, _ => by
    have h' : (rise1 x y && rises (y :: r)) = true := h
    rw [Bool.and_eq_true] at h'
    exact ⟨x, y, rfl, rfl, h'.1⟩
  | x :: y :: r, i + 1, h, hi => by
    have h' : (rise1 x y && rises (y :: r)) = true := h
    rw [Bool.and_eq_true] at h'
    obtain ⟨a, b, h1, h2, h3⟩ := rises_at (y :: r) i h'.2 (by simpa using hi)
    exact ⟨a, b, by simpa using h1, by simpa using h2, h3⟩
theorem katTups_of (I : Inv X pins σ H s) : ∀ (xs : List D) {vs : List V} {us : List Value}, RelL X.K H ι xs vs → Vals vs us → (∀ d ∈ xs, tt d = true) → ∃ fs, PySem.W.KatTups s.heap us fs ∧ fs.length = us.length ∧ ∀ f ∈ fs, ∃ q jts, f = .ref q ∧ IsTup s.heap q jts
  | [], vs, us, r, ru, _ => by
    simp only [RelL] at r; subst r; cases ru
    exact ⟨[], PySem.W.KatTups.nil, rfl, fun _ h => by simp at h⟩
  | d :: ds, vs, us, r, ru, ht => by
    simp only [RelL] at r
    obtain ⟨v, vr, rfl, hv, hr⟩ := r
    cases ru with
    | cons ru0 rur =>
      obtain ⟨fs, h1, h2, h3⟩ := katTups_of I ds hr rur fun e he => ht e (List.mem_cons_of_mem _ he)
      have hd := ht d (List.mem_cons_self ..)
      unfold tt at hd
      split at hd
      · obtain ⟨p, q, its, jts, _, _, f, rfl, t1, rfl, t2, _⟩ := tt_of I hv ru0
        obtain ⟨o, ho, hc, n, hd1⟩ := t1
        refine ⟨.ref q :: fs, PySem.W.KatTups.cons ho hc hd1 rfl h1, by simp [h2], fun f hf => ?_⟩
        rcases List.mem_cons.mp hf with rfl | hf
        · exact ⟨q, _, rfl, t2⟩
        · exact h3 f hf
      · cases hd
theorem cd_sortT (hu : X.A.units + 64 < cLine) : CallR X (.builtin "sorted") (rDL X.K bSortT) := by
  intro pins s σ H xs us Q I r q
  obtain ⟨ι, g, ds, d, g', G0, r1, q, p⟩ := q
  cases ds with
  | nil => cases q
  | cons e dsr =>
  cases dsr with
  | cons _ _ => cases q
  | nil =>
    simp only [bSortT] at q
    obtain ⟨ys, hx, q⟩ := bind_some q
    split at q
    · rename_i z
      simp only [Bool.and_eq_true, decide_eq_true_eq] at z
      cases q
      simp only [RelL] at r1
      obtain ⟨v, _, rfl, rv, rfl⟩ := r1
      obtain ⟨a, vs, rfl, hq, hr⟩ := lstOf_sq G0 rv hx
      cases r with
      | cons ru rr =>
        cases rr
        cases ru
        obtain ⟨its, rits, ht, hsz⟩ := I.list hq
        have hlen : its.length = ys.length := by rw [← rits.length, hr.length]
        refine TL.sorted_id (κ := tuples' false) ht.isList (by omega) (fun h2 h' hk E R hR => ?_) (fun h' hk i hi R hR => ?_) ?_
        · have I' : Inv X pins σ H { s with heap := h' } := I.kept (t' := s.toks) hk
          obtain ⟨fs, k1, k2, k3⟩ := katTups_of I' ys hr rits (rises_tt ys z.2 (by omega))
          refine PySem.W.kat_kind (T := .type "tuple") k1 (by omega) (fun f hf => ?_) (by rfl) hR
          obtain ⟨q0, jts, rfl, o, ho, hc, _⟩ := k3 f hf
          rw [← hc]
          exact (PySem.W.Looks.ld ho).andThen .now
        · have I' : Inv X pins σ H { s with heap := h' } := I.kept (t' := s.toks) hk
          obtain ⟨x, y, hx1, hy1, hxy⟩ := rises_at ys i z.2 (by omega)
          obtain ⟨vx, hvx, rx⟩ := hr.get hx1
          obtain ⟨vy, hvy, ry⟩ := hr.get hy1
          obtain ⟨ux, hux, rux⟩ := rits.get hvx
          obtain ⟨uy, huy, ruy⟩ := rits.get hvy
          have e1 : its.getD i .none = ux := by simp [hux]
          have e2 : its.getD (i + 1) .none = uy := by simp [huy]
          rw [e1, e2]
          exact rise_lt I' hxy rx ry rux ruy (by rw [in1_units, in1_units]; omega) hR
        · obtain ⟨c, hc⟩ := sortedAll_at s.heap its its.toArray
          have hfr := I.hok.fresh (Nat.le_succ s.heap.objs.size)
          refine ⟨.ref (s.heap.objs.size + 1), _, I.laid (t' := s.toks) (fun b o e => sortedAll_old e) (Nat.le_succ _) (show ObjOk X.prog X.w _ _ _ (.lst vs) from ⟨hsz, its, c, rits, by simpa [seqObj] using hc⟩), rfl, ?_⟩
          refine p _ _ _ (Ext.lay hfr) (G0.lay hfr) ?_
          simp only [Rel]
          exact ⟨_, _, rfl, .inl ⟨.inl upd_same, G0.fresh hfr, G0.freshH hfr⟩, RelL.ext (Ext.lay hfr) _ hr⟩
    · cases q
end
section
variable {σ : Sg} {g : G}
@[simp] theorem ev_bSortT {d : D} : bSortT [d] g = (lstOf d g).bind fun xs => if (decide (xs.length < 64) && rises xs) = true then some (.lst xs, g) else none := rfl
end
end L3
namespace L3
open PySem PySem.Spec PyProof.Rows L2
noncomputable def compLR (nn L : Nat) (t : FG) (c : FT) (e : FE) : Nat → Sg → G → Option (List D × G)
  | 0, _, g => (g[nn]?).bind fun xs => if xs.length = L then some ([], g) else none
  | r + 1, σ, g => (g[nn]?).bind fun xs => if xs.length = L then (xs[L - (r + 1)]?).bind fun d => (t d σ g).bind fun q => (c q.1 q.2).bind fun k => if k.1 = true then (e q.1 k.2).bind fun r' => (compLR nn L t c e r q.1 r'.2).bind fun z => some (r'.1 :: z.1, z.2) else compLR nn L t c e r q.1 k.2 else none
theorem compLR_zero {nn L : Nat} {t : FG} {c : FT} {e : FE} {σ : Sg} {g g' : G} {all : List D} (h : compLR nn L t c e 0 σ g = some (all, g')) : ∃ xs, g[nn]? = some xs ∧ xs.length = L ∧ all = [] ∧ g' = g := by
  simp only [compLR] at h
  obtain ⟨xs, hx, h⟩ := bind_some h
  split at h
  · rename_i z
    cases h
    exact ⟨xs, hx, z, rfl, rfl⟩
  · cases h
theorem compLR_succ {nn L r : Nat} {t : FG} {c : FT} {e : FE} {σ : Sg} {g : G} {o : List D × G} (h : compLR nn L t c e (r + 1) σ g = some o) : ∃ xs d, g[nn]? = some xs ∧ xs.length = L ∧ xs[L - (r + 1)]? = some d ∧ ((t d σ g).bind fun q => (c q.1 q.2).bind fun k => if k.1 = true then (e q.1 k.2).bind fun r' => (compLR nn L t c e r q.1 r'.2).bind fun z => some (r'.1 :: z.1, z.2) else compLR nn L t c e r q.1 k.2) = some o := by
  simp only [compLR] at h
  obtain ⟨xs, hx, h⟩ := bind_some h
  split at h
  · rename_i z
    obtain ⟨d, hd, h⟩ := bind_some h
    exact ⟨xs, d, hx, z, hd, h⟩
  · cases h
noncomputable abbrev FIR := Sg → G → Option (Nat × Nat × G)
noncomputable def ItOkR (K : PySem.W.Frag) (J : It) (H : Hp) (ι : Ix) (nn L : Nat) : Prop :=
  ∀ (i : Nat) H1 ι1 g1, Exh H ι H1 ι1 → RelG K H1 ι1 g1 → ∀ xs, g1[nn]? = some xs → xs.length = L → (L ≤ i → J.stop i H1) ∧ ∀ d, xs[i]? = some d → J.go i H1 ∧ ∀ x H2, J.yld i H1 x H2 → Ext H1 ι1 H2 ι1 ∧ RelG K H2 ι1 g1 ∧ Rel K H2 ι1 d x
inductive tDIR (K : PySem.W.Frag) (f : FIR)  (σ : L2.St) (H : Hp) (R : (It → Hp → Prop)) : Prop
  | mk (ι : Ix) (σd : Sg) (g : G) (nn : Nat) (L : Nat) (g' : G) (h0 : RelG K H ι g) (h1 : RelS K H ι σd σ) (h2 : f σd g = some (nn, L, g')) (h3 : ∀ H' ι' J, Ext H ι H' ι' → RelG K H' ι' g' → ItOkR K J H' ι' nn L → R J H') : tDIR K f σ H R
structure DIR (X : Cx) (tg iter : Expr) (f : FIR) : Prop where of ::
  un : PI X tg iter (tDIR X.K f)
noncomputable def iRef (f : FE) : FIR := fun σ g => (f σ g).bind fun r => match r.1 with | .ref n => (r.2[n]?).bind fun xs => some (n, xs.length, r.2) | _ => none
theorem ItOkR.ref {K H ι a n L} (h : ι.ix[n]? = some a) : ItOkR K (Itl K a) H ι n L := fun i H1 ι1 g1 e1 G1 xs hx hl => by
  obtain ⟨a', vs, ha, hv, hr⟩ := G1.at_ n xs hx
  have := e1.at h
  rw [ha] at this
  cases this
  have hq : SqL K H1 a vs := .inl (.inl hv)
  refine ⟨fun h => ⟨vs, hq, by rw [← hr.length]; omega⟩, fun d hd => ?_⟩
  obtain ⟨v, hv', rv⟩ := hr.get hd
  refine ⟨⟨vs, v, hq, hv'⟩, fun x H2 y => ?_⟩
  obtain ⟨rfl, y⟩ := y
  have := y vs hq
  rw [hv'] at this; cases this
  exact ⟨Ext.refl, G1, rv⟩
theorem dir_ref {X : Cx} {tg l : Expr} {fe : FE} (hl : DE X l fe) : DIR X tg l (iRef fe) := .of (PI.imp (pi_list hl.un) fun σ H Q h => by
  obtain ⟨ι, σd, g, nn, L, g', G0, S0, h, p⟩ := h
  obtain ⟨⟨d1, g1⟩, h1, h⟩ := bind_some h
  cases d1 with
  | ref n =>
    obtain ⟨xs, hx, h⟩ := bind_some h
    cases h
    refine tD.bind G0 S0 h1 fun H1 ι1 v e1 G1 S1 r1 => ?_
    simp only [Rel] at r1
    obtain ⟨a, rfl, ha⟩ := r1
    obtain ⟨a', vs, ha', hv, hr⟩ := G1.at_ _ xs hx
    rw [ha] at ha'
    cases ha'
    exact ⟨a, rfl, ⟨vs, .inl (.inl hv)⟩, p H1 ι1 _ e1 G1 (.ref ha)⟩
  | _ => cases h)
inductive CompIR (X' : Cx) (t : FG) (c : FT) (e : FE) (fp : List Addr) (Dl : Addr) (tn : Nat → Heap → Prop) (nn L : Nat) (all : List D) (H1 : Hp) (ι1 : Ix) (g' : G) (n : Nat) (s : Shared) : Prop
  | mk (i : Nat) (σ : L2.St) (H : Hp) (ιo : Ix) (σd : Sg) (g : G) (vs : List V) (acc more : List D) (hn : n = L + 1 - i) (hil : i ≤ L) (I : Inv X' [] σ H s) (ti : tn i s.heap) (fri : ∀ b ∈ fp, H b = none) (E1 : Ext H1 ι1 H ιo) (G1 : RelG X'.K H (Ix.hide ιo Dl) g) (S1 : RelS X'.K H (Ix.hide ιo Dl) σd σ)
      (hHD : H Dl = some (.lst vs)) (racc : RelL X'.K H (Ix.hide ιo Dl) acc vs) (hal : acc.length ≤ i) (hf : compLR nn L t c e (L - i) σd g = some (more, g')) (ea : all = acc ++ more) : CompIR X' t c e fp Dl tn nn L all H1 ι1 g' n s
theorem compR_loop {X' : Cx} {tg iter elt : Expr} {ifs : List Expr} {scope : Scope} {pos : Pos} {t : FG} {c : FT} {e : FE} {J : It} {fp : List Addr} {it Dl : Addr} {tn : Nat → Heap → Prop} {all : List D} {nn L : Nat} {H1 : Hp} {ι1 : Ix} {g' : G} {R : Result → Shared → Prop}
    (hxe : X'.xe = fun _ _ => False) (hc : X'.calm = true) (T : Turn X'.prog X'.w X'.K tg J fp it tn) (hfp : ∀ b ∈ fp, FpOk X' [] X'.H₀ b) (J1 : ItOkR X'.K J H1 ι1 nn L) (hD : H1 Dl = none) (hz : L ≤ sizeLine)
    (hg : DG X' tg t) (hi : DIfs X' ifs c) (he : DE X' elt e)
    (fin : ∀ s' σ' H' ιo vs, Inv X' [] σ' H' s' → (∀ b ∈ fp, H' b = none) → Ext H1 ι1 H' ιo → RelG X'.K H' (Ix.hide ιo Dl) g' → H' Dl = some (.lst vs) → RelL X'.K H' (Ix.hide ιo Dl) all vs → R (.ok .next) s') :
    ∀ (s : Shared) (σ : L2.St) (H : Hp) (ιo : Ix) (σd : Sg) (g : G), Inv X' [] σ H s → tn 0 s.heap → (∀ b ∈ fp, H b = none) → Ext H1 ι1 H ιo → RelG X'.K H (Ix.hide ιo Dl) g → RelS X'.K H (Ix.hide ιo Dl) σd σ → H Dl = some (.lst []) → compLR nn L t c e L σd g = some (all, g') →
      codeAny (model X'.prog X'.w) X'.A (.compLoop (.ListComp elt [⟨tg, iter, ifs, 0⟩] scope pos) 0 (.ref it) (.ref Dl) X'.env) R s := by
  intro s σ H ιo σd g I t0 fr0 E0 G0 S0 hH hf0
  have stat : ∀ {H' : Hp}, (∀ b ∈ fp, H' b = none) → ∀ b ∈ fp, FpOk X' [] H' b := fun hn b hb => ⟨hn b hb, (hfp b hb).2⟩
  refine codeAny_loop rfl (CompIR X' t c e fp Dl tn nn L all H1 ι1 g') ?_ (L + 1)
    ⟨0, σ, H, ιo, σd, g, [], [], all, rfl, Nat.zero_le _, I, t0, fr0, E0, G0, S0, hH, by simp [RelL], Nat.le_refl _, by simpa using hf0, rfl⟩
  clear hf0 hH S0 G0 E0 fr0 t0 I g σd ιo H σ s
  rintro n s ⟨i, σ, H, ιo, σd, g, vs, acc, more, rfl, hil, I, ti, fri, E1, G1, S1, hHD, racc, hal, hf, rfl⟩
  show wpAny _ X'.A ((compTurn (.ListComp elt [⟨tg, iter, ifs, 0⟩] scope pos) 0 (.ref it) (.ref Dl) X'.env).onRaise (fun x => do noteFrame x X'.env; theTreesLotGoes x)) _ _ s
  refine wpAny_noted ?_
  rw [compTurn_list]
  refine wpAny_bind (wpAny_standAt (wpAny_bind ?_))
  have j1 := J1 i H (Ix.hide ιo Dl) g (E1.exhH hD) G1
  by_cases hlt : i < L
  · rw [show L - i = (L - (i + 1)) + 1 by omega] at hf
    obtain ⟨xs, d0, hxs, hxl, hd0, hf⟩ := compLR_succ hf
    rw [show L - (L - (i + 1) + 1) = i by omega] at hd0
    obtain ⟨st, go⟩ := j1 xs hxs hxl
    obtain ⟨go, yl⟩ := go d0 hd0
    refine thn (T.item X' rfl rfl rfl hc i [] s σ H _ I (stat fri) ti go) fun r s4 ⟨u, hr, h4⟩ => ?_
    subst hr
    refine wpAny_bind (thn h4 fun _ s5 ⟨x, H5, I5, r5, y5, t5, fr5⟩ => ?_)
    obtain ⟨e5, G5, rd5⟩ := yl x H5 y5
    obtain ⟨⟨σ6, g6⟩, h6, hf⟩ := bind_some hf
    obtain ⟨⟨k7, g7⟩, h7, hf⟩ := bind_some hf
    have I5' := I5.pinned (stat fr5) (T.obj _ _ t5)
    have lift : ∀ {α : Type} {tr : Sem α} {Q : α → Shared → Prop} {E : Value → Shared → Prop} {s : Shared}, wpAny (model X'.prog X'.w) X'.A tr Q X'.xe s → wpAny (model X'.prog X'.w) X'.A tr Q E s := fun h => wpAny_mono h (fun _ _ q => q) fun _ _ z => by rw [hxe] at z; exact z.elim
    have again : ∀ {s9 : Shared} {σ9 : L2.St} {H9 : Hp} {ι9 : Ix} {σd9 : Sg} {g9 : G} {vs9 : List V} {acc9 : List D} {more9 : List D}, Inv X' ([] ++ pinsAt fp s5.heap) σ9 H9 s9 → Ext H1 ι1 H9 ι9 → RelG X'.K H9 (Ix.hide ι9 Dl) g9 → RelS X'.K H9 (Ix.hide ι9 Dl) σd9 σ9 →
        H9 Dl = some (.lst vs9) → RelL X'.K H9 (Ix.hide ι9 Dl) acc9 vs9 → acc9.length ≤ i + 1 → compLR nn L t c e (L - (i + 1)) σd9 g9 = some (more9, g') → acc ++ more = acc9 ++ more9 →
        ∃ m, m < L + 1 - i ∧ CompIR X' t c e fp Dl tn nn L (acc ++ more) H1 ι1 g' m s9 := by
      intro s9 σ9 H9 ι9 σd9 g9 vs9 acc9 more9 I9 E9 G9 S9 h9 r9 l9 f9 a9
      refine ⟨L + 1 - (i + 1), by omega, i + 1, σ9, H9, ι9, σd9, g9, vs9, acc9, more9, rfl, hlt, I9.unpinned, T.keep _ _ _ t5 fun b hb o e => (I9.pin (b, o) (List.mem_append_right _ (List.mem_append_right _ (mem_pinsAt hb e)))).1, fun b hb => ?_, E9, G9, S9, h9, r9, l9, f9, a9⟩
      obtain ⟨o, e, d⟩ := T.obj _ _ t5 b hb
      exact (I9.pin (b, o) (List.mem_append_right _ (List.mem_append_right _ (mem_pinsAt hb e)))).2.1
    refine wpAny_bind (lift (thn (hg.un _ s5 σ H5 x u (fun σ' H' => ∃ ι6, Ext H5 (Ix.hide ιo Dl) H' ι6 ∧ RelG X'.K H' ι6 g6 ∧ RelS X'.K H' ι6 σ6 σ') I5' r5 ⟨Ix.hide ιo Dl, σd, g, d0, σ6, g6, G5, S1.ext e5, rd5, h6, fun H6 ι6 σ6' e6 G6 S6 => ⟨ι6, e6, G6, S6⟩⟩) fun _ s6 q6 => ?_))
    obtain ⟨σ6', H6, I6, ι6, e6, G6, S6⟩ := q6
    refine wpAny_bind (lift (thn (hi.un _ s6 σ6' H6 (fun b H' => b = k7 ∧ ∃ ι7, Ext H6 ι6 H' ι7 ∧ RelG X'.K H' ι7 g7) I6 ⟨ι6, σ6, g6, k7, g7, G6, S6, h7, fun H7 ι7 e7 G7 => ⟨rfl, ι7, e7, G7⟩⟩) fun ok s7 q7 => ?_))
    obtain ⟨H7, I7, rfl, ι7, e7, G7⟩ := q7
    have e57 := (e5.trans e6).trans e7
    obtain ⟨E7, ei7⟩ := E1.hideT e57
    have hD7 : H7 Dl = some (.lst vs) := e57.same Dl _ hHD (G1.hid Dl List.mem_cons_self).1
    have r7 := RelL.ext e57 _ racc
    have S7 := S6.ext e7
    cases ok with
    | false =>
      simp only [Bool.false_eq_true, if_false] at hf
      refine wpAny_pure ⟨rfl, ?_⟩
      rw [ei7] at G7 S7 r7
      exact again I7 E7 G7 S7 hD7 r7 (by omega) hf rfl
    | true =>
      simp only [if_true] at hf
      obtain ⟨⟨d8, g8⟩, h8, hf⟩ := bind_some hf
      obtain ⟨⟨more9, g9⟩, h9, hf⟩ := bind_some hf
      obtain ⟨rfl, rfl⟩ : d8 :: more9 = more ∧ g9 = g' := by cases hf; exact ⟨rfl, rfl⟩
      refine wpAny_bind (wpAny_bind (lift (thn (he.un _ s7 σ6' H7 (fun v H' => ∃ ι8, Ext H7 ι7 H' ι8 ∧ RelG X'.K H' ι8 g8 ∧ Rel X'.K H' ι8 d8 v) I7 ⟨ι7, σ6, g7, d8, g8, G7, S7, h8, fun H8 ι8 v e8 G8 r8 => ⟨ι8, e8, G8, r8⟩⟩) fun y s8 q8 => ?_)))
      obtain ⟨v8, H8, I8, rv8, ι8, e8, G8, r8⟩ := q8
      have e58 := e57.trans e8
      obtain ⟨E8, ei8⟩ := E1.hideT e58
      have hD8 : H8 Dl = some (.lst vs) := e58.same Dl _ hHD (G1.hid Dl List.mem_cons_self).1
      have racc8 := RelL.ext e58 _ racc
      have S8 := S7.ext e8
      have hlen : vs.length < sizeLine := by rw [← racc.length]; omega
      rw [ei8] at G8 S8 racc8 r8
      refine wpAny_bind (lift (thn (mt_append (X := X') _ s8 σ6' H8 (.ref Dl) [v8] (.ref Dl) [y] (fun _ H' => H' = upd H8 Dl (.lst (vs ++ [v8]))) I8 rfl (.cons rv8 .nil) ⟨Dl, vs, v8, rfl, rfl, hD8, hlen, rfl⟩) fun _ s9 q9 => ?_))
      obtain ⟨_, H9, I9, _, rfl⟩ := q9
      refine wpAny_pure (wpAny_pure ⟨rfl, ?_⟩)
      refine again (acc9 := acc ++ [d8]) I9 (E8.growN hD) (G8.grow hD8) ⟨S8.1, fun j d q => let ⟨v, a, b⟩ := S8.2 j d q; ⟨v, a, Rel.grow hD8 d b⟩⟩ upd_same ?_ (by simp; omega) h9 (by simp)
      exact RelL.append (RelL.grow hD8 _ racc8) (by simp only [RelL]; exact ⟨v8, [], rfl, Rel.grow hD8 _ r8, rfl⟩)
  · have ei : i = L := by omega
    subst ei
    rw [Nat.sub_self] at hf
    obtain ⟨xs, hxs, hxl, rfl, rfl⟩ := compLR_zero hf
    obtain ⟨st, go⟩ := j1 xs hxs hxl
    refine thn (T.done X' rfl rfl rfl hc _ [] s σ H _ I (stat fri) ti (st (Nat.le_refl _))) fun r s4 ⟨hr, I4⟩ => ?_
    subst hr
    exact wpAny_pure (fin s4 σ H ιo vs I4 fri E1 G1 hHD (by simpa using racc))
noncomputable def fCompR (mk : List D → G → Option (D × G)) (fi : FIR) (fr : List (Option Nat)) (t : FG) (c : FT) (e : FE) : FE := fun σ g => (fi σ g).bind fun r => if szOk r.2.1 = true then (compLR r.1 r.2.1 t c e r.2.1 (subS fr σ) r.2.2).bind fun q => mk q.1 q.2 else none
section
variable {X : Cx} {tg iter elt : Expr} {ifs : List Expr} {scope : Scope} {pos cpos : Pos} {N : List Str} {fr : List (Option Nat)} {fi : FIR} {t : FG} {c : FT} {e : FE}
theorem compR_core {pins : List (Addr × Obj)} {s : Shared} {σ : L2.St} {H : Hp} {ι : Ix} {σd : Sg} {g g1 g' : G} {all : List D} {nn L : Nat} {use : Option (Value → Sem Unit)} {Q : Value → Shared → Prop}
    (hxe : X.xe = fun _ _ => False) (hc : X.calm = true) (ok : CompOk X N fr scope) (hit : DIR X tg iter fi) (hin : ∀ C s3 H fp pins, DG (compCx X N scope C s3 H fp pins) tg t ∧ DIfs (compCx X N scope C s3 H fp pins) ifs c ∧ DE (compCx X N scope C s3 H fp pins) elt e)
    (hs : ∀ x, foldedSetIterable iter X.env x = pure x) (I : Inv X pins σ H s) (G0 : RelG X.K H ι g) (S0 : RelS X.K H ι σd σ) (h1 : fi σd g = some (nn, L, g1)) (hz : szOk L = true) (h2 : compLR nn L t c e L (subS fr σd) g1 = some (all, g'))
    (fin : ∀ s' H' ιo vs Dl C, Inv X pins σ H' s' → FpOk X pins H' C → (∃ m, s'.heap.Ns C m) → Ext H ι H' ιo → RelG X.K H' (Ix.hide ιo Dl) g' → H' Dl = some (.lst vs) → RelL X.K H' (Ix.hide ιo Dl) all vs → Dl ∉ ιo.hd → H Dl = none → compPost (model X.prog X.w) X.A X.xe use Q (.ref Dl) C (.ok .next) s') :
    wpAny (model X.prog X.w) X.A (comprehension (.ListComp elt [⟨tg, iter, ifs, 0⟩] scope pos) scope X.env cpos (newList []) false (eval iter X.env) use) Q X.xe s := by
  have free : ∀ x ∈ scope.names, x.2 = .free → ∃ c, X.env.cells.lookup x.1 = some c := fun x hx hk => I.ok.has x.1 (ok.free x hx hk).2
  refine wpAny_comprehension_free (use := use) rfl hs (closureFor_of free) ok.kind ok.names (thn (hit.un pins s σ H (fun J H' => ∃ ι1, Ext H ι H' ι1 ∧ RelG X.K H' ι1 g1 ∧ ItOkR X.K J H' ι1 nn L) I ⟨ι, σd, g, nn, L, g1, G0, S0, h1, fun H1 ι1 J e1 G1 J1 => ⟨ι1, e1, G1, J1⟩⟩) fun xv s1 h1' => thn h1' fun itv s2 q2 => ?_)
  obtain ⟨it, fp, tn, J, H1, rfl, I1, T, t1, f1, ι1, e1, G1, J1⟩ := q2
  refine wpAny_newObj_type ?_
  have hDn : H1 s2.heap.objs.size = none := I1.hok.fresh (Nat.le_refl _)
  generalize hs3 : ({ s2 with heap := s2.heap.push { cls := .type "list", dict := none, data := .seq ([] : List Value).toArray } } : Shared) = s3
  have I3 : Inv X pins σ (upd H1 s2.heap.objs.size (.lst [])) s3 := by
    rw [← hs3]
    exact I1.laid (t' := s2.toks) (fun b u e => Heap.get?_push_of_some _ e) (Nat.le_refl _) ⟨Nat.zero_le _, [], 0, .nil, Heap.get?_push_size _ rfl⟩
  have k3 : ∀ b o, s2.heap.get? b = some o → s3.heap.get? b = some o := fun b o e => by rw [← hs3]; exact Heap.get?_push_of_some _ e
  have sz3 : s3.heap.objs.size = s2.heap.objs.size + 1 := by rw [← hs3]; exact Heap.size_push ..
  have hfl : ∀ b ∈ fp, b < s2.heap.objs.size := fun b hb => let ⟨o, eo, _⟩ := T.obj _ _ t1 b hb; Heap.lt_size eo
  have f3 : ∀ b ∈ fp, FpOk X pins (upd H1 s2.heap.objs.size (.lst [])) b := fun b hb => ⟨by rw [upd_ne (Nat.ne_of_lt (hfl b hb))]; exact (f1 b hb).1, (f1 b hb).2⟩
  refine wpAny_newFunctionEnv ok.nocell (by intro y hy; simp at hy) (fun h4 hns hsb => ?_) ok.kind
  have k4 : ∀ b o, s3.heap.get? b = some o → h4.get? b = some o := fun b o e => hsb.extBut b o (Nat.ne_of_lt (Heap.lt_size e)) (Heap.get?_push_of_some _ e)
  have hns' : h4.Ns s3.heap.objs.size fun _ => none := by simpa using hns
  have I4 := comp_enter (tk := s3.toks + ([] : List (Str × Value)).length) ok I3 f3 (fun b hb => by rw [sz3]; exact Nat.lt_succ_of_lt (hfl b hb)) hns' k4
  obtain ⟨hg, hi, he⟩ := hin s3.heap.objs.size s3 (upd H1 s2.heap.objs.size (.lst [])) fp pins
  have t4 : tn 0 h4 := T.keep _ _ _ t1 fun b hb o e => k4 b o (k3 b o e)
  have fx : ∀ b ∈ fp, FpOk (compCx X N scope s3.heap.objs.size s3 (upd H1 s2.heap.objs.size (.lst [])) fp pins) [] (upd H1 s2.heap.objs.size (.lst [])) b := fun b hb => by
    refine ⟨(f3 b hb).1, ?_, ?_, .inl hb, ?_, ?_⟩
    · exact Nat.ne_of_lt (by rw [sz3]; exact Nat.lt_succ_of_lt (hfl b hb))
    · exact I4.ok.exfs b hb
    · exact (I4.ok.exf b hb).2
    · intro p hp
      have hp' : p ∈ X.pn ++ pins := by
        have q : p ∈ (X.pn ++ pins) ++ [] := hp
        simpa using q
      exact (f1 b hb).2.2.2.2.2 p hp'
  have loop : codeAny (model X.prog X.w) X.A (.compLoop (.ListComp elt [⟨tg, iter, ifs, 0⟩] scope pos) 0 (.ref it) (.ref s2.heap.objs.size) (compEnvC scope (clOf scope X.env) s3.heap.objs.size X.env))
      (compPost (model X.prog X.w) X.A X.xe use Q (.ref s2.heap.objs.size) s3.heap.objs.size) { s3 with heap := h4, toks := s3.toks + ([] : List (Str × Value)).length } := by
    refine compR_loop (X' := compCx X N scope s3.heap.objs.size s3 (upd H1 s2.heap.objs.size (.lst [])) fp pins) (all := all) (g' := g') rfl hc T fx J1 hDn (szOk.le hz) hg hi he ?_ _ _ _ ι1 (subS fr σd) g1 I4 t4 (fun b hb => (f3 b hb).1) ((Ext.refl (H := H1) (ι := ι1)).growN hDn) (G1.hide hDn) ?_ upd_same h2
    · intro s' σ' H' ιo vs I' fr' E' G' hD' r'
      have I5 : Inv X pins σ H' s' := I3.call' (ch := fp) I'.os I'.base I'.hok I'.bare fun b hb => ⟨(f3 b hb).2.2.2.1, (f3 b hb).2.1, (f3 b hb).2.2.2.2.1, (f3 b hb).2.2.2.2.2⟩
      obtain ⟨m, hm, _⟩ := I'.loc
      refine fin s' H' ιo vs _ _ I5 ?_ ⟨m, hm⟩ (e1.trans E') G' hD' r' ?_ ?_
      · have z := I3.fpOk (H' := H') (b := s3.heap.objs.size) (Nat.le_refl _) I'.free
        exact z
      · rw [E'.hid]; exact G1.freshH hDn
      · cases q : H s2.heap.objs.size with
        | none => rfl
        | some o => exact absurd hDn (e1.there _ (by rw [q]; simp))
    · have S1 : RelS X.K H1 ι1 (subS fr σd) (subS fr σ) := (S0.ext e1).sub fr
      exact ⟨S1.1, fun j d q => let ⟨v, a, b⟩ := S1.2 j d q; ⟨v, a, Rel.hide hDn d b⟩⟩
  exact codeAny_compStart_list loop (T.self _ 0 _ _ _ t4 loop)
theorem setcompR_core {mk : List D → G → Option (D × G)} {i : Nat} {x : Str} {px spos : Pos} (hmk : ∀ {H ι H' ιo g' all vs Dl d gg Q}, Ext H ι H' ιo → H Dl = none → RelG X.K H' (Ix.hide ιo Dl) g' → H' Dl = some (.lst vs) → RelL X.K H' (Ix.hide ιo Dl) all vs → Dl ∉ ιo.hd → mk all g' = some (d, gg) → Post X.K H ι d gg Q → Q (.ref Dl) H')
    (hxe : X.xe = fun _ _ => False) (hc : X.calm = true) (ok : CompOk X N fr scope) (hit : DIR X tg iter fi) (hin : ∀ C s3 H fp pins, DG (compCx X N scope C s3 H fp pins) tg t ∧ DIfs (compCx X N scope C s3 H fp pins) ifs c ∧ DE (compCx X N scope C s3 H fp pins) elt e)
    (hN : X.N.Nodup) (hi : X.N[i]? = some x) (hx : Loc X.env.scope x)
    (hsw : swapsWith (.ListComp elt [⟨tg, iter, ifs, 0⟩] scope pos) (some (.Name x px)) spos.line X.env = pure true)
    (hs : ∀ x, foldedSetIterable iter X.env x = pure x) (hf : X.fn x = true ∨ X.env.scope.names.lookup x = some .local) : DS X (.Assign [.Name x px] (.ListComp elt [⟨tg, iter, ifs, 0⟩] scope pos) spos) (fAsg (fCompR mk fi fr t c e) (gN i)) := .of (by
  intro pins s σ H Dn I h
  obtain ⟨ι, σd, g, r, σd', gg, G0, S0, h0, p⟩ := h
  obtain ⟨⟨d, gg'⟩, h1', hr⟩ := bind_some h0
  have hr' : some (F.nx, σd.set i (some d), gg') = some (r, σd', gg) := hr
  clear h0
  obtain ⟨⟨nn, L, g1⟩, h1, h3⟩ := bind_some (x := fi σd g) h1'
  dsimp only at h3
  split at h3
  · rename_i hz
    obtain ⟨⟨all, g'⟩, h2, h4⟩ := bind_some h3
    rw [exec_Assign_Name_used _ _ _ _ hsw]
    refine wpAny_bind (wpAny_standAt (wpAny_bind ?_))
    show wpAny _ X.A (do let _ ← comprehension (.ListComp elt [⟨tg, iter, ifs, 0⟩] scope pos) scope X.env _ (newList []) false (eval iter X.env) (some (assign (.Name x px) X.env))) _ _ s
    refine wpAny_bind (wpAny_mono (compR_core (use := some (assign (.Name x px) X.env)) (Q := fun _ s' => SP X pins Dn .next s') hxe hc ok hit hin hs I G0 S0 h1 hz h2 fun s' H' ιo vs Dl C I' fC ⟨m, hm⟩ e' G' hD r hn hf0 => ?_) (fun _ s' hq => wpAny_pure (wpAny_pure hq)) fun _ _ e => e)
    show wpAny _ X.A (assign (.Name x px) X.env (.ref Dl)) _ _ _
    refine wpAny_assign_Name (store_ok2 I' hN hi hx (v := .ref Dl) rfl (fun s'' I'' ⟨a, sb, ha⟩ => ?_) hf)
    obtain ⟨f0, f1, f2, f3, f4, f5⟩ := fC
    have hac : C ≠ a := by
      rcases ha with rfl | ha
      · exact f1
      · exact fun z => f4 _ _ ha z.symm
    obtain ⟨oc, es, ep, ho, rest⟩ := hm
    refine ⟨m, ⟨oc, es, ep, (sb.2 C hac).trans ho, rest⟩, fun h'' sb2 => ?_⟩
    refine ⟨σ.set i (some (.ref Dl)), H', I''.turned (t' := s''.toks) (fun b o hb e => sb2.extBut b o hb e) f0 f1 f3 f4 f5, ?_⟩
    cases hr'
    exact hmk (Q := fun v H' => Dn.nx (σ.set i (some v)) H') e' hf0 G' hD r hn h4 fun H2 ι2 v e2 G2 r2 => p H2 ι2 e2 G2 _ ((S0.ext e2).set r2 i)
  · cases h3)
theorem ds_setcompLR {i : Nat} {x : Str} {px spos : Pos} (hxe : X.xe = fun _ _ => False) (hc : X.calm = true) (ok : CompOk X N fr scope) (hit : DIR X tg iter fi) (hin : ∀ C s3 H fp pins, DG (compCx X N scope C s3 H fp pins) tg t ∧ DIfs (compCx X N scope C s3 H fp pins) ifs c ∧ DE (compCx X N scope C s3 H fp pins) elt e)
    (hN : X.N.Nodup) (hi : X.N[i]? = some x) (hx : Loc X.env.scope x) (hsw : swapsWith (.ListComp elt [⟨tg, iter, ifs, 0⟩] scope pos) (some (.Name x px)) spos.line X.env = pure true := by rfl)
    (hs : ∀ x, foldedSetIterable iter X.env x = pure x := by intro _; rfl) (hf : X.fn x = true ∨ X.env.scope.names.lookup x = some .local := by first | exact .inl rfl | exact .inr rfl | assumption) :
    DS X (.Assign [.Name x px] (.ListComp elt [⟨tg, iter, ifs, 0⟩] scope pos) spos) (fAsg (fCompR cLst fi fr t c e) (gN i)) :=
  (setcompR_core (fun e' _ G' hD r hn h4 p => comp_val e' G' hD r hn h4 p) hxe hc ok hit hin hN hi hx hsw hs hf)
end
section
variable {σ : Sg} {g : G} {fa : FE}
@[simp] theorem ev_iRef : iRef fa σ g = (fa σ g).bind fun r => match r.1 with | .ref n => (r.2[n]?).bind fun xs => some (n, xs.length, r.2) | _ => none := rfl
@[simp] theorem ev_fCompR {mk : List D → G → Option (D × G)} {fi : FIR} {fr : List (Option Nat)} {t : FG} {c : FT} : fCompR mk fi fr t c fa σ g = (fi σ g).bind fun r => if szOk r.2.1 = true then (compLR r.1 r.2.1 t c fa r.2.1 (subS fr σ) r.2.2).bind fun q => mk q.1 q.2 else none := rfl
end
end L3
namespace L3
open PySem PySem.Spec PyProof.Rows L2
noncomputable def fRev (fo : FE) : FE := fun σ g => (fo σ g).bind fun r => match r.1 with
  | .ref n => (r.2[n]?).bind fun xs => some (.non, r.2.set n xs.reverse)
  | _ => none
section
variable {X : Cx} {o : Expr} {fo : FE} {apos cpos : Pos}
end
section
variable {σ : Sg} {g : G} {fo : FE}
@[simp] theorem ev_fRev : fRev fo σ g = (fo σ g).bind fun r => match r.1 with
  | .ref n => (r.2[n]?).bind fun xs => some (.non, r.2.set n xs.reverse)
  | _ => none := rfl
end
section
variable {X : Cx} {tg iter elt : Expr} {ifs : List Expr} {scope : Scope} {pos cpos : Pos} {N : List Str} {fr : List (Option Nat)} {fi : FI} {t : FG} {c : FT} {e : FE}
end
noncomputable def fNone : FE := fun _ _ => none
theorem de_none {X : Cx} {e : Expr} : DE X e fNone := .of (fun pins s σ H Q I h => by
  obtain ⟨ι, σd, g, d, g', G0, S0, h, p⟩ := h
  cases h)
@[simp] theorem ev_fNone {σ : Sg} {g : G} : fNone σ g = none := rfl
@[simp] theorem ev_iEnumT {fa : FE} {σ : Sg} {g : G} : iEnumT fa σ g = (fa σ g).bind fun r => match r.1 with | .tup xs => some (enumD xs, r.2) | _ => none := rfl
end L3
namespace L3
open PySem PySem.Spec PyProof.Rows L2
open Sem (wp)
open Builtin
section
variable {X : Cx}
noncomputable def bMaxL (ds : List D) (g : G) : Option (D × G) := match ds with | [d] => (lstOf d g).bind fun xs => (intsD xs).bind fun ns => ns.max?.map fun m => (.int m, g) | _ => none
theorem cd_maxL (hh : X.A.handled = none) : CallR X (.builtin "max") (rDL X.K bMaxL) := by
  intro pins s σ H xs us Q I r q
  obtain ⟨ι, g, ds, d, g', G0, r1, q, p⟩ := q
  cases ds with
  | nil => cases q
  | cons e dsr =>
  cases dsr with
  | cons _ _ => cases q
  | nil =>
    simp only [bMaxL] at q
    obtain ⟨ys, hx, q⟩ := bind_some q
    obtain ⟨ns, hn, q⟩ := bind_some q
    obtain ⟨m, hm, q⟩ := Option.map_eq_some_iff.mp q
    cases q
    simp only [RelL] at r1
    obtain ⟨v, _, rfl, rv, rfl⟩ := r1
    obtain ⟨a, vs, rfl, hq, hr⟩ := lstOf_sq G0 rv hx
    cases r with
    | cons ru rr =>
      cases rr
      cases ru
      obtain ⟨its, rits, ht, _⟩ := I.list hq
      obtain ⟨ps, rfl, rfl⟩ := ints_items (intsD_are hn hr rits)
      obtain ⟨m1, m2⟩ := List.max?_eq_some_iff.mp hm
      have hi : (ps.map (fun p => Value.int p.1 p.2)).toArray = intItems ps.toArray := by simp [intItems]
      have hl := ht.isList
      rw [hi] at hl
      have hne : 0 < ps.toArray.size := by
        cases ps with
        | nil => simp at m1
        | cons _ _ => simp
      refine max_intList hh hl hne fun v h' tk hv hk => ?_
      obtain ⟨t, rfl⟩ := intItems_at hv
      obtain ⟨h1, h2⟩ := argBest_gt (numAt ps.toArray) (ps.toArray.size - 1)
      have e : numAt ps.toArray (argBest (fun i j => decide (numAt ps.toArray i > numAt ps.toArray j)) (ps.toArray.size - 1)) = m := by
        have key : ∀ j, j < ps.length → numAt ps.toArray j = (ps.map (·.1)).getD j 0 := fun j hj => by rw [numAt_eq]
        have l1 : numAt ps.toArray (argBest (fun i j => decide (numAt ps.toArray i > numAt ps.toArray j)) (ps.toArray.size - 1)) ∈ ps.map (·.1) := by
          rw [numAt_eq]; exact getD_mem (by rw [List.length_map]; simp at hne h1 ⊢; omega)
        refine Int.le_antisymm (m2 _ l1) ?_
        obtain ⟨j, hj, ej⟩ := mem_getD m1
        rw [← ej]
        have := h2 j (by simp at hj ⊢; omega)
        rw [numAt_eq] at this
        rw [numAt_eq]
        simpa [numAt_eq] using this
      rw [e]
      exact ⟨.int m, H, I.kept hk, ⟨_, rfl⟩, p H ι _ Ext.refl G0 (by simp [Rel])⟩
theorem noFill_list_mul : fillsNumberSlot (.type "list") "mul" = pure false :=
  PySem.fillsNumberSlot_seq (id := "list.__mul__") (r := some (.builtin "list.__rmul__")) F.slot_list_mul.lookup (by decide +kernel) F.slot_list_rmul.lookup (by decide +kernel)
theorem repeat_list : seqRepeat? (.type "list") = pure (some (.builtin "list.__mul__")) := by
  unfold seqRepeat?
  rw [PySem.seqSlot_of (T := "list") (name := "__mul__") (id := "list.__mul__") F.slot_list_mul.lookup (by decide +kernel), PySem.seqSlot_of (T := "list") (name := "__rmul__") (id := "list.__rmul__") F.slot_list_rmul.lookup (by decide +kernel)]
  rfl
theorem int_rmul_list (a : Int) (t : Tok) (l : Addr) (items : Array Value) (n : Nat) (dd : Option Addr) (sl : Array (Option Value)) :
    Meets (Builtin.«int.__rmul__» ⟨[.int a t, .ref l], []⟩) (fun _ R s => s.heap.get? l = some { cls := .type "list", dict := dd, data := .seq items n, slots := sl } ∧ R (.ok (.ret Value.notImplemented)) s) :=
  .of_wp fun prog w A R s h => by obtain ⟨hp, g, d, tk, os⟩ := s; obtain ⟨hl, h⟩ := h; wp_walk; exact ⟨_, rfl, h⟩
theorem list_mulW (l : Addr) (items : Array Value) (n : Nat) (dd : Option Addr) (sl : Array (Option Value)) (x : Int) (u : Tok) (h0 : ¬ (!Builtin.List.listFitsIndex x) = true)
    (h3 : ¬ items.size * x.toNat > (2 ^ 63 - 1) / 8) (h4 : ¬ Builtin.List.listTooLong (items.size * x.toNat) = true) (hne : items.isEmpty = false) (hsz : ((List.replicate x.toNat items).foldl (· ++ ·) #[]).size ≤ sizeLine) :
    Meets (Builtin.«list.__mul__» ⟨[.ref l, .int x u], []⟩) (fun _ R s => s.heap.get? l = some { cls := .type "list", dict := dd, data := .seq items n, slots := sl } ∧ R (.ok (.ret (Value.ref s.heap.objs.size))) { s with heap := s.heap.push { cls := Value.type "list", data := Data.seq ((List.replicate x.toNat items).foldl (· ++ ·) #[]) }, toks := s.toks }) :=
  .of_wp fun prog w A R s h => by
    obtain ⟨hp, g, d, tk, os⟩ := s; obtain ⟨hl, h⟩ := h
    have f1 := AutoSeq1.idx_int; have f2 := AutoSeq1.sub_list_list
    wp_walk using AutoSeq1.wpAny_loadPart' hl
    exact ⟨_, rfl, by rw [if_neg (by simp [hne])]; exact h⟩
noncomputable def rMulL (K : PySem.W.Frag) : R2 := fun x y H Q => ∃ a k xs, x = .ref a ∧ y = .int k ∧ SqL K H a xs ∧ xs ≠ [] ∧ 0 ≤ k ∧ k < 2 ^ 62 ∧ xs.length * k.toNat ≤ 16777216 ∧ ∀ p, H p = none → Q (.ref p) (upd H p (.lst (List.replicate k.toNat xs).flatten))
theorem op_mulL : OpR X (binaryOp .Mult) (rMulL X.K) := by
  intro pins s σ H x y v u Q I rx ry h
  obtain ⟨a, k, xs, rfl, rfl, hq, hx, h1, h2, hz, q2⟩ := h
  cases rx
  obtain ⟨t, rfl⟩ := ry
  obtain ⟨its, r, ht, hzz⟩ := I.list hq
  have hl := r.length
  obtain ⟨⟨cls, dd, data, sl⟩, n, ho, hc, hdd, hd⟩ := id ht
  simp only at hc hd hdd
  subst hc hd hdd
  refine wpAny_binaryOp_repeat_ref (T := "list") (U := "int") (by decide) ⟨_, ho, rfl⟩ (fun s' => typeIs_int s' k t) noFill_list_mul F.fills_int_mul F.slot_int_rmul repeat_list F.slot_int_index.lookup
    (call_meets F.slot_int_rmul (typeIs_int s k t) F.entry_int_rmul (F.args_int_rmul_2 _ _) (int_rmul_list k t a its.toArray n none sl) ⟨ho, rfl, ⟨_, ho, rfl⟩, ?_⟩)
  have hi : its ≠ [] := fun e => hx (by subst e; cases r; rfl)
  have fresh : H s.heap.objs.size = none := I.hok.fresh (Nat.le_refl _)
  have hnew : List.foldl (fun x1 x2 => x1 ++ x2) #[] (List.replicate k.toNat its.toArray) = (List.replicate k.toNat its).flatten.toArray := by
    have := foldl_rep its k.toNat []
    rw [List.nil_append] at this
    exact this
  have hs : sizeLine = 16777216 := sizeLine_eq
  have hz' : its.length * k.toNat ≤ 16777216 := by rw [← hl]; exact hz
  have hfit : ¬ (!Builtin.List.listFitsIndex k) = true := by
    unfold Builtin.List.listFitsIndex
    simp
    omega
  have hlong : ¬ Builtin.List.listTooLong (its.toArray.size * k.toNat) = true := by
    rw [notLongL (by rw [List.size_toArray, hs]; exact hz')]
    simp
  refine call_meets F.slot_list_mul ⟨_, ho, rfl⟩ F.entry_list_mul (F.args_list_mul_2 _ _) (list_mulW a its.toArray n none sl k t hfit (by rw [List.size_toArray]; omega) hlong (by simp [hi]) ?_) ⟨ho, ?_⟩
  · rw [hnew, List.size_toArray, len_rep, Nat.mul_comm, hs]; exact hz'
  · rw [hnew]
    refine ⟨.ref _, _, I.laid (t' := s.toks) (fun b u e => Heap.get?_push_of_some _ e) (Nat.le_refl _) (show ObjOk X.prog X.w _ _ _ (.lst (List.replicate k.toNat xs).flatten) from ⟨by rw [len_rep, Nat.mul_comm, hs]; exact hz, _, 0, r.rep k.toNat, Heap.get?_push_size _ rfl⟩), rfl, q2 _ fresh⟩
noncomputable def oMul2 (d1 d2 : D) (g : G) : Option (D × G) := match d1, d2 with
  | .lst xs, .int k => if (!xs.isEmpty && decide (0 ≤ k) && okR k && szOk (xs.length * k.toNat)) = true then some (.lst (List.replicate k.toNat xs).flatten, g) else none
  | d1, d2 => oMul d1 d2 g
theorem od_mul2 : OpR X (binaryOp .Mult) (rD2 X.K oMul2) := by
  intro pins s σ H x y v u Q I rx ry q
  obtain ⟨ι, g, d1, d2, d, g', G0, r1, r2, q, p⟩ := q
  unfold oMul2 at q
  split at q
  · rename_i xs k
    split at q
    · rename_i z
      simp only [Bool.and_eq_true, decide_eq_true_eq, Bool.not_eq_true'] at z
      cases q
      simp only [Rel] at r1 r2
      subst r2
      obtain ⟨a, vs, rfl, hq, hr⟩ := r1
      have hk := okR.and z.1.2
      have hz := szOk.le z.2
      rw [sizeLine_eq] at hz
      refine op_mulL pins s σ H _ _ v u Q I rx ry ⟨a, k, vs, rfl, rfl, hq.sq, ?_, z.1.1.2, hk.2, by rw [← hr.length]; exact hz, fun pp hp => ?_⟩
      · intro e
        subst e
        have := hr.length
        simp at this
        subst this
        simp at z
      · refine p _ _ _ (Ext.lay hp) (G0.lay hp) ?_
        simp only [Rel]
        exact ⟨pp, _, rfl, .inl ⟨.inl upd_same, G0.fresh hp, G0.freshH hp⟩, RelL.ext (Ext.lay hp) _ (hr.rep _)⟩
    · cases q
  · exact od_mul pins s σ H x y v u Q I rx ry ⟨ι, g, d1, d2, d, g', G0, r1, r2, q, p⟩
end
section
variable {σ : Sg} {g : G}
@[simp] theorem ev_bMaxL {d : D} : bMaxL [d] g = (lstOf d g).bind fun xs => (intsD xs).bind fun ns => ns.max?.map fun m => (.int m, g) := rfl
@[simp] theorem ev_oMul2I {i j : Int} : oMul2 (.int i) (.int j) g = if okMul i j = true then some (.int (i * j), g) else none := rfl
@[simp] theorem ev_oMul2T {xs : List D} {k : Int} : oMul2 (.tup xs) (.int k) g = oMul (.tup xs) (.int k) g := rfl
@[simp] theorem ev_oMul2L {xs : List D} {k : Int} : oMul2 (.lst xs) (.int k) g = if (!xs.isEmpty && decide (0 ≤ k) && okR k && szOk (xs.length * k.toNat)) = true then some (.lst (List.replicate k.toNat xs).flatten, g) else none := rfl
end
end L3
namespace L3
open PySem PySem.Spec PyProof.Rows L2
section
variable {prog : Program} {w : World} {A : Around} {E : Value → Shared → Prop} {s : Shared}
theorem zipL_item {z ti tu j1 j2 a1 a2 : Addr} {k1 k2 : Nat} {xs ys : Array Value} {x y p q : Value} {Q : Value → Shared → Prop} (D : ZA z ti tu j1 j2 a1 a2) (hz : IsZip s.heap z ti tu .none) (hti : IsPair s.heap ti (.ref j1) (.ref j2)) (htu : IsPair s.heap tu p q)
    (t1 : s.heap.IsListIter j1 a1 k1) (t2 : s.heap.IsListIter j2 a2 k2) (s1 : s.heap.IsList a1 xs) (s2 : s.heap.IsList a2 ys) (ex : xs[k1]? = some x) (ey : ys[k2]? = some y)
    (hQ : ∀ h', IsZip h' z ti tu (rawInt s.heap.objs.size) → IsPair h' tu x y → h'.IsListIter j1 a1 (k1 + 1) → h'.IsListIter j2 a2 (k2 + 1) → IsPair h' s.heap.objs.size x y → stay [z, tu, j1, j2] s.heap h' → Q (.ref s.heap.objs.size) { s with heap := h' }) :
    wpAny (model prog w) A (Builtin.«zip.__next__» ⟨[.ref z], []⟩) (fun fin s' => ∃ v, fin = .done (.ret v) ∧ Q v s') E s := by
  change wpAny _ _ (field (.ref z) 2 >>= fun _ => _) _ _ _
  refine wpAny_bind (wpAny_field hz rfl (x := .bool false) rfl ?_)
  change wpAny _ _ (field (.ref z) 3 >>= fun _ => _) _ _ _
  refine wpAny_bind (wpAny_field hz rfl (x := .ref ti) rfl ?_)
  refine wpAny_bind (wpAny_seqItems hti rfl ?_)
  change wpAny _ _ (Builtin.SmallTypes.ownedTupleIsFree (.ref z) >>= fun _ => _) _ _ _
  refine wpAny_bind ?_
  unfold Builtin.SmallTypes.ownedTupleIsFree
  refine wpAny_bind (wpAny_field hz rfl (x := .none) rfl (wpAny_pure ?_))
  simp only [if_true]
  refine wpAny_bind (wpAny_rule (wpAny_bind (wpAny_field hz rfl (x := .ref tu) rfl (wpAny_bind (wpAny_setField_rec hz (by simp) fun b1 z1 c1 => wpAny_bind ?_)))))
  simp only [List.zipIdx_cons, List.zipIdx_nil, List.forIn_cons, List.forIn_nil]
  have y1 : IsZip b1 z ti tu .ellipsis := z1
  have v1 := c1.2
  refine wpAny_bind (wpAny_bind (wpAny_onRaise ?_))
  change wpAny _ _ (Builtin.SmallTypes.nextOf (.ref j1) >>= fun _ => _) _ _ _
  refine wpAny_bind (wpAny_nextOf_list_item (t1.at fun o e => (v1 _ D.n3).trans e) (s1.extBut c1.extBut D.m1.1) ex fun b2 u2 c2 => wpAny_pure ?_)
  have w2 : IsPair b2 tu p q := (c2.2 _ D.n6).trans ((v1 _ D.n2).trans htu)
  refine wpAny_bind (wpAny_seqItems w2 rfl (wpAny_bind (wpAny_updateSeq_pair w2 fun b3 w3 c3 => wpAny_bind (wpAny_letGo (wpAny_pure ?_)))))
  have w3' : IsPair b3 tu x q := w3
  refine wpAny_bind (wpAny_bind (wpAny_onRaise ?_))
  change wpAny _ _ (Builtin.SmallTypes.nextOf (.ref j2) >>= fun _ => _) _ _ _
  have i2 : b3.IsListIter j2 a2 k2 := t2.at fun o e => (c3.2 _ (Ne.symm D.n7)).trans ((c2.2 _ (Ne.symm D.n8)).trans ((v1 _ D.n4).trans e))
  have l2 : b3.IsList a2 ys := ((s2.extBut c1.extBut D.m2.1).extBut c2.extBut D.m2.2.2.1).extBut c3.extBut D.m2.2.1
  refine wpAny_bind (wpAny_nextOf_list_item i2 l2 ey fun b4 u4 c4 => wpAny_pure ?_)
  have w4 : IsPair b4 tu x q := (c4.2 _ D.n7).trans w3'
  refine wpAny_bind (wpAny_seqItems w4 rfl (wpAny_bind (wpAny_updateSeq_pair w4 fun b5 w5 c5 => wpAny_bind (wpAny_letGo (wpAny_pure (wpAny_pure ?_))))))
  have w5' : IsPair b5 tu x y := w5
  refine wpAny_bind (wpAny_seqItems w5' rfl (wpAny_bind (wpAny_newTuple ?_)))
  have sz : b5.objs.size = s.heap.objs.size := by rw [c5.1, c4.1, c3.1, c2.1, c1.1]
  have y5 : IsZip b5 z ti tu .ellipsis := (c5.2 _ (Ne.symm D.n2)).trans ((c4.2 _ (Ne.symm D.n4)).trans ((c3.2 _ (Ne.symm D.n2)).trans ((c2.2 _ (Ne.symm D.n3)).trans y1)))
  have r1 : b5.IsListIter j1 a1 (k1 + 1) := u2.at fun o e => (c5.2 _ (Ne.symm D.n6)).trans ((c4.2 _ D.n8).trans ((c3.2 _ (Ne.symm D.n6)).trans e))
  have r2 : b5.IsListIter j2 a2 (k2 + 1) := u4.at fun o e => (c5.2 _ (Ne.symm D.n7)).trans e
  have far : stay [z, tu, j1, j2] s.heap b5 := ((((stay.of c1 (by simp)).tr (stay.of c2 (by simp))).tr (stay.of c3 (by simp))).tr (stay.of c4 (by simp))).tr (stay.of c5 (by simp))
  change wpAny _ _ (Builtin.SmallTypes.ownedTupleHandOut (.ref z) (.ref b5.objs.size) >>= fun _ => _) _ _ _
  refine wpAny_bind ?_
  unfold Builtin.SmallTypes.ownedTupleHandOut
  have y6 : IsZip (b5.push { cls := .type "tuple", data := .seq #[x, y] }) z ti tu .ellipsis := Heap.get?_push_of_some _ y5
  refine wpAny_bind (wpAny_setField_rec y6 (by simp) fun b7 z7 c7 => ?_)
  have y7 : IsZip b7 z ti tu (rawInt b5.objs.size) := z7
  refine wpAny_setField_rec y7 (by simp) fun b8 z8 c8 => wpAny_pure ⟨_, rfl, ?_⟩
  have y8 : IsZip b8 z ti tu (rawInt b5.objs.size) := z8
  have zlt : z < b5.objs.size := Heap.lt_size y5
  have up : ∀ c o, c ≠ z → b5.get? c = some o → b8.get? c = some o := fun c o n e => (c8.2 c n).trans ((c7.2 c n).trans (Heap.get?_push_of_some _ e))
  have T8 : IsPair b8 b5.objs.size x y := (c8.2 _ (Nat.ne_of_gt zlt)).trans ((c7.2 _ (Nat.ne_of_gt zlt)).trans (Heap.get?_push_size _ rfl))
  change Q (.ref b5.objs.size) _
  rw [sz] at y8 T8 ⊢
  exact hQ b8 y8 (up _ _ D.n2 w5') (r1.at fun o e => up _ o D.n3 e) (r2.at fun o e => up _ o D.n4 e) T8 fun c o n e => up c o (fun q => n (by simp [q])) (far c o n e)
theorem zipL_end {z ti tu j1 j2 a1 a2 : Addr} {k1 k2 : Nat} {xs ys : Array Value} {p q : Value} {Q : Fin → Shared → Prop} (hh : A.handled = none) (D : ZA z ti tu j1 j2 a1 a2) (hz : IsZip s.heap z ti tu .none) (hti : IsPair s.heap ti (.ref j1) (.ref j2)) (htu : IsPair s.heap tu p q)
    (t1 : s.heap.IsListIter j1 a1 k1) (t2 : s.heap.IsListIter j2 a2 k2) (s1 : s.heap.IsList a1 xs) (s2 : s.heap.IsList a2 ys) (hend : xs[k1]? = none ∨ ys[k2]? = none)
    (hE : ∀ h' e, stay [z, tu, j1, j2] s.heap h' → (∃ o, h'.get? e = some o ∧ o.cls = .type "StopIteration") → E (.ref e) { s with heap := h' }) : wpAny (model prog w) A (Builtin.«zip.__next__» ⟨[.ref z], []⟩) Q E s := by
  change wpAny _ _ (field (.ref z) 2 >>= fun _ => _) _ _ _
  refine wpAny_bind (wpAny_field hz rfl (x := .bool false) rfl ?_)
  change wpAny _ _ (field (.ref z) 3 >>= fun _ => _) _ _ _
  refine wpAny_bind (wpAny_field hz rfl (x := .ref ti) rfl ?_)
  refine wpAny_bind (wpAny_seqItems hti rfl ?_)
  change wpAny _ _ (Builtin.SmallTypes.ownedTupleIsFree (.ref z) >>= fun _ => _) _ _ _
  refine wpAny_bind ?_
  unfold Builtin.SmallTypes.ownedTupleIsFree
  refine wpAny_bind (wpAny_field hz rfl (x := .none) rfl (wpAny_pure ?_))
  simp only [if_true]
  refine wpAny_bind (wpAny_rule (wpAny_bind (wpAny_field hz rfl (x := .ref tu) rfl (wpAny_bind (wpAny_setField_rec hz (by simp) fun b1 z1 c1 => wpAny_bind ?_)))))
  simp only [List.zipIdx_cons, List.zipIdx_nil, List.forIn_cons, List.forIn_nil]
  have y1 : IsZip b1 z ti tu .ellipsis := z1
  have v1 := c1.2
  refine wpAny_bind (wpAny_bind (wpAny_onRaise ?_))
  change wpAny _ _ (Builtin.SmallTypes.nextOf (.ref j1) >>= fun _ => _) _ _ _
  have i1 : b1.IsListIter j1 a1 k1 := t1.at fun o e => (v1 _ D.n3).trans e
  have l1 : b1.IsList a1 xs := s1.extBut c1.extBut D.m1.1
  have ez : ∀ {b : Heap} {e : Addr} {oe : Obj}, IsZip b z ti tu .ellipsis → b.get? e = some oe → oe.cls = .type "StopIteration" → e ≠ z := fun yb q1 q2 x => by
    subst x
    rw [yb] at q1
    cases q1
    exact absurd (show Value.type "zip" = Value.type "StopIteration" from q2) (by decide)
  cases hx : xs[k1]? with
  | none =>
    refine wpAny_bind (wpAny_nextOf_list_end hh i1 l1 hx fun b2 e c2 he => ?_)
    obtain ⟨oe, q1, q2⟩ := he
    have y2 : IsZip b2 z ti tu .ellipsis := c2 _ _ (Ne.symm D.n3) y1
    refine wpAny_setField_rec y2 (by simp) fun b3 _ c3 => hE b3 e ?_ ⟨oe, (c3.2 _ (ez y2 q1 q2)).trans q1, q2⟩
    exact ((stay.of c1 (by simp)).tr fun c o n e => c2 c o (fun q => n (by simp [q])) e).tr (stay.of c3 (by simp))
  | some x =>
    have hy : ys[k2]? = none := by
      rcases hend with h | h
      · rw [hx] at h; cases h
      · exact h
    refine wpAny_bind (wpAny_nextOf_list_item i1 l1 hx fun b2 u2 c2 => wpAny_pure ?_)
    have w2 : IsPair b2 tu p q := (c2.2 _ D.n6).trans ((v1 _ D.n2).trans htu)
    refine wpAny_bind (wpAny_seqItems w2 rfl (wpAny_bind (wpAny_updateSeq_pair w2 fun b3 w3 c3 => wpAny_bind (wpAny_letGo (wpAny_pure ?_)))))
    refine wpAny_bind (wpAny_bind (wpAny_onRaise ?_))
    change wpAny _ _ (Builtin.SmallTypes.nextOf (.ref j2) >>= fun _ => _) _ _ _
    have i2 : b3.IsListIter j2 a2 k2 := t2.at fun o e => (c3.2 _ (Ne.symm D.n7)).trans ((c2.2 _ (Ne.symm D.n8)).trans ((v1 _ D.n4).trans e))
    have l2 : b3.IsList a2 ys := ((s2.extBut c1.extBut D.m2.1).extBut c2.extBut D.m2.2.2.1).extBut c3.extBut D.m2.2.1
    refine wpAny_bind (wpAny_nextOf_list_end hh i2 l2 hy fun b4 e c4 he => ?_)
    obtain ⟨oe, q1, q2⟩ := he
    have y4 : IsZip b4 z ti tu .ellipsis := c4 _ _ (Ne.symm D.n4) ((c3.2 _ (Ne.symm D.n2)).trans ((c2.2 _ (Ne.symm D.n3)).trans y1))
    refine wpAny_setField_rec y4 (by simp) fun b5 _ c5 => hE b5 e ?_ ⟨oe, (c5.2 _ (ez y4 q1 q2)).trans q1, q2⟩
    exact ((((stay.of c1 (by simp)).tr (stay.of c2 (by simp))).tr (stay.of c3 (by simp))).tr fun c o n e => c4 c o (fun q => n (by simp [q])) e).tr (stay.of c5 (by simp))
end
section
variable {prog : Program} {w : World} {A : Around} {E : Value → Shared → Prop} {s : Shared}
theorem nextZL_item {z ti tu j1 j2 a1 a2 : Addr} {k1 k2 : Nat} {xs ys : Array Value} {x y p q : Value} {Q : Option Value → Shared → Prop} (D : ZA z ti tu j1 j2 a1 a2) (hz : IsZip s.heap z ti tu .none) (hti : IsPair s.heap ti (.ref j1) (.ref j2)) (htu : IsPair s.heap tu p q)
    (t1 : s.heap.IsListIter j1 a1 k1) (t2 : s.heap.IsListIter j2 a2 k2) (s1 : s.heap.IsList a1 xs) (s2 : s.heap.IsList a2 ys) (ex : xs[k1]? = some x) (ey : ys[k2]? = some y)
    (hQ : ∀ h', IsZip h' z ti tu (rawInt s.heap.objs.size) → IsPair h' tu x y → h'.IsListIter j1 a1 (k1 + 1) → h'.IsListIter j2 a2 (k2 + 1) → IsPair h' s.heap.objs.size x y → stay [z, tu, j1, j2] s.heap h' → Q (some (.ref s.heap.objs.size)) { s with heap := h' }) :
    wpAny (model prog w) A (pyNext (.ref z)) Q E s := by
  have ty : s.TypeIs (.ref z) "zip" := ⟨_, hz, rfl⟩
  unfold pyNext
  exact wpAny_bind (wpAny_attempt (wpAny_callSpecial?_slot (name := Str.ofString "__next__") ty F.slot_zip_next (wpAny_call_entry F.slot_zip_next ty F.entry_zip_next (zipL_item D hz hti htu t1 t2 s1 s2 ex ey fun h' q1 q2 q3 q4 q5 q6 => wpAny_pure (hQ h' q1 q2 q3 q4 q5 q6)) (F.args_zip_next_1 _))))
theorem nextZL_end {z ti tu j1 j2 a1 a2 : Addr} {k1 k2 : Nat} {xs ys : Array Value} {p q : Value} {Q : Option Value → Shared → Prop} (hh : A.handled = none) (D : ZA z ti tu j1 j2 a1 a2) (hz : IsZip s.heap z ti tu .none) (hti : IsPair s.heap ti (.ref j1) (.ref j2)) (htu : IsPair s.heap tu p q)
    (t1 : s.heap.IsListIter j1 a1 k1) (t2 : s.heap.IsListIter j2 a2 k2) (s1 : s.heap.IsList a1 xs) (s2 : s.heap.IsList a2 ys) (hend : xs[k1]? = none ∨ ys[k2]? = none)
    (hQ : ∀ h', stay [z, tu, j1, j2] s.heap h' → Q none { s with heap := h' }) : wpAny (model prog w) A (pyNext (.ref z)) Q E s := by
  have ty : s.TypeIs (.ref z) "zip" := ⟨_, hz, rfl⟩
  unfold pyNext
  refine wpAny_bind (wpAny_attempt (wpAny_callSpecial?_slot (name := Str.ofString "__next__") ty F.slot_zip_next (wpAny_call_entry F.slot_zip_next ty F.entry_zip_next (zipL_end hh D hz hti htu t1 t2 s1 s2 hend fun h' e hk he => ?_) (F.args_zip_next_1 _))))
  obtain ⟨o, ho, hc⟩ := he
  exact wpAny_bind (wpAny_isInstance (T := "StopIteration") (b := true) ⟨o, ho, hc⟩ isSubtype_stop (wpAny_pure (hQ _ hk)))
end
noncomputable abbrev zl1 (h : Heap) (a : Addr) : Heap := h.push { cls := .type "list_iterator", data := .fields #[.ref a, .int 0 0] }
noncomputable abbrev zl2 (h : Heap) (a b : Addr) : Heap := zl1 (zl1 h a) b
noncomputable abbrev zl3 (h : Heap) (a b : Addr) : Heap := (zl2 h a b).push { cls := .type "tuple", data := .seq #[.ref h.objs.size, .ref (zl1 h a).objs.size] }
noncomputable abbrev zl4 (h : Heap) (a b : Addr) : Heap := (zl3 h a b).push { cls := .type "tuple", data := .seq #[.none, .none] }
noncomputable abbrev zl5 (h : Heap) (a b : Addr) : Heap := (zl4 h a b).push { cls := .type "zip", data := .fields #[.none, .bool false, .bool false, .ref (zl2 h a b).objs.size, .ref (zl3 h a b).objs.size] }
theorem zip_newL (a b : Addr) (xs ys : Array Value) :
    Meets (Builtin.«zip.__new__» ⟨[.type "zip", .ref a, .ref b], []⟩) (fun _ R s => s.heap.IsList a xs ∧ s.heap.IsList b ys ∧ R (.ok (.ret (.ref (zl4 s.heap a b).objs.size))) { s with heap := zl5 s.heap a b }) :=
  .of_wp fun prog w A R s h => by
    obtain ⟨hp, g, d, tk, os⟩ := s
    obtain ⟨ta, tb, h⟩ := h
    have sub := sub_zip
    have tA : Heap.IsList (Shared.heap ⟨hp, g, d, tk, os⟩) a xs := ta
    have tB : Heap.IsList (Shared.heap ⟨hp.push { cls := .type "list_iterator", data := .fields #[.ref a, .int 0 0] }, g, d, tk, os⟩) b ys := let ⟨o, ho, r⟩ := tb; ⟨o, Heap.get?_push_of_some _ ho, r⟩
    wp_walk using wpAny_pyIter_list tA, wpAny_pyIter_list tB
    exact ⟨_, rfl, h⟩
theorem call_zipL {prog : Program} {w : World} {A : Around} {E : Value → Shared → Prop} {s : Shared} {a b : Addr} {xs ys : Array Value} {Q : Value → Shared → Prop} (ta : s.heap.IsList a xs) (tb : s.heap.IsList b ys)
    (h : ∀ h', IsZip h' (s.heap.objs.size + 4) (s.heap.objs.size + 2) (s.heap.objs.size + 3) .none → IsPair h' (s.heap.objs.size + 2) (.ref s.heap.objs.size) (.ref (s.heap.objs.size + 1)) → IsPair h' (s.heap.objs.size + 3) .none .none →
      h'.IsListIter s.heap.objs.size a 0 → h'.IsListIter (s.heap.objs.size + 1) b 0 → (∀ c o, s.heap.get? c = some o → h'.get? c = some o) → Q (.ref (s.heap.objs.size + 4)) { s with heap := h' }) :
    wpAny (model prog w) A (call (.type "zip") [.ref a, .ref b]) Q E s := by
  refine callType_new F.called_zip (by decide) (F.typeCall_zip_2 _ _) (F.newCall_zip_2 _ _) (fun obj => F.args_object_init_3 obj _ _) F.entry_zip_new (zip_newL a b xs ys) ⟨ta, tb, ?_⟩
  have e1 : (zl1 s.heap a).objs.size = s.heap.objs.size + 1 := Heap.size_push ..
  have e2 : (zl2 s.heap a b).objs.size = s.heap.objs.size + 2 := by rw [Heap.size_push, e1]
  have e3 : (zl3 s.heap a b).objs.size = s.heap.objs.size + 3 := by rw [Heap.size_push, e2]
  have e4 : (zl4 s.heap a b).objs.size = s.heap.objs.size + 4 := by rw [Heap.size_push, e3]
  have up : ∀ {h : Heap} {o o' : Obj} {c : Addr}, h.get? c = some o → (h.push o').get? c = some o := fun e => Heap.get?_push_of_some _ e
  have q5 : (zl5 s.heap a b).get? (zl4 s.heap a b).objs.size = some _ := Heap.get?_push_size _ rfl
  have q4 : (zl5 s.heap a b).get? (zl3 s.heap a b).objs.size = some _ := up (Heap.get?_push_size _ rfl)
  have q3 : (zl5 s.heap a b).get? (zl2 s.heap a b).objs.size = some _ := up (up (Heap.get?_push_size _ rfl))
  have q2 : (zl5 s.heap a b).get? (zl1 s.heap a).objs.size = some _ := up (up (up (Heap.get?_push_size _ rfl)))
  have q1 : (zl5 s.heap a b).get? s.heap.objs.size = some _ := up (up (up (up (Heap.get?_push_size _ rfl))))
  show _ ∧ _
  rw [e2, e3, e4] at q5
  rw [e1, e2] at q3
  rw [e3] at q4
  rw [e1] at q2
  rw [e4]
  exact ⟨⟨_, q5, rfl⟩, h _ q5 q3 q4 ⟨_, q1, rfl, rfl⟩ ⟨_, q2, rfl, rfl⟩ fun c o x => up (up (up (up (up x))))⟩
noncomputable def ItzL (K : PySem.W.Frag) (a b : Addr) : It :=
  ⟨fun i H => ∃ xs ys x y, SqL K H a xs ∧ SqL K H b ys ∧ xs[i]? = some x ∧ ys[i]? = some y, fun i H x H' => ∃ T v u, x = .ref T ∧ H T = none ∧ H' = upd H T (.tup [v, u]) ∧ ∀ xs ys, SqL K H a xs → SqL K H b ys → xs[i]? = some v ∧ ys[i]? = some u,
    fun i H => ∃ xs ys, SqL K H a xs ∧ SqL K H b ys ∧ (xs.length ≤ i ∨ ys.length ≤ i)⟩
theorem sq_fpL {X : Cx} {pins : List (Addr × Obj)} {σ : L2.St} {H : Hp} {s : Shared} {a c : Addr} {xs : List V} (I : L2.Inv X pins σ H s) (f : FpOk X pins H c) (hq : SqL X.K H a xs) : a ≠ c := fun z => by
  subst z
  obtain ⟨f0, f1, f2, f3, f4, f5⟩ := f
  rcases hq with hq | ⟨o, its, n, hk, _⟩
  · rcases hq with hq | ⟨o, hq⟩ <;> rw [f0] at hq <;> cases hq
  · have hb : X.base.get? a = some o := I.ok.mod.kin a o hk
    rcases f3 with q | q
    · exact I.ok.noex a o hb q
    · exact Nat.lt_irrefl _ (Nat.lt_of_lt_of_le (Heap.lt_size (I.ok.bs a o hb).1) q)
theorem turn_zipL {P : Program} {w : World} {K : PySem.W.Frag} {elts : List Expr} {kt : Nat} {tp : Pos} (a b z ti tu j1 j2 : Addr) (n1 : ti ≠ z) (n2 : tu ≠ z) (n3 : j1 ≠ z) (n4 : j2 ≠ z) (n5 : ti ≠ tu) (n6 : tu ≠ j1) (n7 : tu ≠ j2) (n8 : j1 ≠ j2) (n9 : ti ≠ j1) (n10 : ti ≠ j2) :
    Turn P w K (.Tuple elts kt tp) (ItzL K a b) [z, ti, tu, j1, j2] z (fun i h => IsZip h z ti tu .none ∧ IsPair h ti (.ref j1) (.ref j2) ∧ (∃ p q, IsPair h tu p q) ∧ h.IsListIter j1 a i ∧ h.IsListIter j2 b i) where
  mem := by simp
  obj := fun i h st c hc => by
    obtain ⟨h1, h2, ⟨p, q, h3⟩, ⟨o4, g4, _, d4⟩, ⟨o5, g5, _, d5⟩⟩ := st
    simp only [List.mem_cons, List.mem_nil_iff, or_false] at hc
    rcases hc with rfl | rfl | rfl | rfl | rfl
    · exact ⟨_, h1, fun v z => by cases z⟩
    · exact ⟨_, h2, fun v z => by cases z⟩
    · exact ⟨_, h3, fun v z => by cases z⟩
    · exact ⟨_, g4, fun v z => by rw [d4] at z; cases z⟩
    · exact ⟨_, g5, fun v z => by rw [d5] at z; cases z⟩
  keep := fun i h h' st k => by
    obtain ⟨h1, h2, ⟨p, q, h3⟩, h4, h5⟩ := st
    exact ⟨k z (by simp) _ h1, k ti (by simp) _ h2, ⟨p, q, k tu (by simp) _ h3⟩, h4.at fun o e => k j1 (by simp) o e, h5.at fun o e => k j2 (by simp) o e⟩
  item := by
    intro X hP hw hK hc i pins s σ H E I hf st hg
    subst hP hw hK
    obtain ⟨h1, h2, ⟨p, q, h3⟩, h4, h5⟩ := st
    obtain ⟨xs, ys, x, y, hq1, hq2, hx, hy⟩ := hg
    obtain ⟨its1, rv1, p1, _⟩ := I.list hq1
    obtain ⟨its2, rv2, p2, _⟩ := I.list hq2
    obtain ⟨u1, hu1, ru1⟩ := rv1.get hx
    obtain ⟨u2, hu2, ru2⟩ := rv2.get hy
    have D : ZA z ti tu j1 j2 a b := ⟨n1, n2, n3, n4, n5, n6, n7, n8, n9, n10, ⟨sq_fpL I (hf z (by simp)) hq1, sq_fpL I (hf tu (by simp)) hq1, sq_fpL I (hf j1 (by simp)) hq1, sq_fpL I (hf j2 (by simp)) hq1⟩,
      ⟨sq_fpL I (hf z (by simp)) hq2, sq_fpL I (hf tu (by simp)) hq2, sq_fpL I (hf j1 (by simp)) hq2, sq_fpL I (hf j2 (by simp)) hq2⟩⟩
    refine nextZL_item D h1 h2 h3 h4 h5 p1.isList p2.isList (x := u1) (y := u2) (by simpa using hu1) (by simpa using hu2) fun h' g1 g2 g3 g4 g5 g6 => ?_
    refine ⟨_, rfl, wpAny_letOwnedTupleGo_zip g1 fun h'' g7 g8 => ?_⟩
    have I1 : L2.Inv X pins σ (upd H s.heap.objs.size (.tup [x, y])) { s with heap := s.heap.push { cls := .type "tuple", data := .seq #[u1, u2] } } :=
      I.laid (t' := s.toks) (o := .tup [x, y]) (fun b o q => Heap.get?_push_of_some _ q) (Nat.le_refl _) (show ObjOk X.prog X.w _ _ _ (.tup [x, y]) from ⟨by show 2 ≤ sizeLine; decide, [u1, u2], .cons ru1 (.cons ru2 .nil), IsTup.new _ _⟩)
    have lt : ∀ c ∈ [z, ti, tu, j1, j2], c ≠ s.heap.objs.size := fun c hc => by
      simp only [List.mem_cons, List.mem_nil_iff, or_false] at hc
      rcases hc with rfl | rfl | rfl | rfl | rfl
      · exact Nat.ne_of_lt (Heap.lt_size h1)
      · exact Nat.ne_of_lt (Heap.lt_size h2)
      · exact Nat.ne_of_lt (Heap.lt_size h3)
      · obtain ⟨o', q3, _⟩ := h4
        exact Nat.ne_of_lt (Heap.lt_size q3)
      · obtain ⟨o', q3, _⟩ := h5
        exact Nat.ne_of_lt (Heap.lt_size q3)
    have I2 : L2.Inv X pins σ (upd H s.heap.objs.size (.tup [x, y])) { s with heap := h'' } := turnedL (t' := s.toks) (s := { s with heap := s.heap.push { cls := .type "tuple", data := .seq #[u1, u2] } }) (ch := [z, ti, tu, j1, j2]) I1 (fun c o hc e => by
      simp only [List.mem_cons, List.mem_nil_iff, or_false, not_or] at hc
      have h6 : h'.get? c = some o := by
        by_cases hcT : c = s.heap.objs.size
        · subst hcT
          have e' : (s.heap.push { cls := .type "tuple", data := .seq #[u1, u2] }).get? s.heap.objs.size = some o := e
          rw [Heap.get?_push_size _ rfl] at e'
          rw [← e']; exact g5
        · exact g6 c o (by simp [hc]) ((Heap.get?_push_ne s.heap c _ hcT).symm.trans e)
      exact (g8.2 c hc.1).trans h6) (fun c hc => by
        obtain ⟨f0, f1, f2, f3, f4, f5⟩ := hf c hc
        exact ⟨by rw [upd_ne (lt c hc)]; exact f0, f1, f2, f3, f4, f5⟩)
    refine ⟨.ref s.heap.objs.size, _, I2, rfl, ⟨_, x, y, rfl, I.fresh, rfl, fun xs' ys' e1 e2 => ?_⟩, ⟨g7, ?_, ⟨u1, u2, ?_⟩, ?_, ?_⟩, fun c hc => ?_⟩
    · rw [I.list_inj e1 hq1, I.list_inj e2 hq2]; exact ⟨hx, hy⟩
    · exact (g8.2 _ n1).trans (g6 ti _ (by simp [n1, n5, n9, n10]) h2)
    · exact (g8.2 _ n2).trans g2
    · exact g3.at fun o e => (g8.2 _ n3).trans e
    · exact g4.at fun o e => (g8.2 _ n4).trans e
    · rw [upd_ne (lt c hc)]; exact (hf c hc).1
  done := by
    intro X hP hw hK hc i pins s σ H E I hf st hg
    subst hP hw hK
    obtain ⟨h1, h2, ⟨p, q, h3⟩, h4, h5⟩ := st
    obtain ⟨xs, ys, hq1, hq2, hl⟩ := hg
    obtain ⟨its1, rv1, p1, _⟩ := I.list hq1
    obtain ⟨its2, rv2, p2, _⟩ := I.list hq2
    have D : ZA z ti tu j1 j2 a b := ⟨n1, n2, n3, n4, n5, n6, n7, n8, n9, n10, ⟨sq_fpL I (hf z (by simp)) hq1, sq_fpL I (hf tu (by simp)) hq1, sq_fpL I (hf j1 (by simp)) hq1, sq_fpL I (hf j2 (by simp)) hq1⟩,
      ⟨sq_fpL I (hf z (by simp)) hq2, sq_fpL I (hf tu (by simp)) hq2, sq_fpL I (hf j1 (by simp)) hq2, sq_fpL I (hf j2 (by simp)) hq2⟩⟩
    have l1 := rv1.length
    have l2 := rv2.length
    refine nextZL_end (I.ok.hd hc) D h1 h2 h3 h4 h5 p1.isList p2.isList ?_ fun h' g => ⟨rfl, turnedL (t' := s.toks) (ch := [z, tu, j1, j2]) I (fun c o hc e => g c o hc e) fun c hc => hf c ?_⟩
    · rcases hl with hl | hl
      · left; simp; omega
      · right; simp; omega
    · simp only [List.mem_cons, List.mem_nil_iff, or_false] at hc ⊢
      rcases hc with rfl | rfl | rfl | rfl <;> simp
  self := fun _ _ _ _ _ st h => wpAny_pyIter_zip st.1 h
noncomputable def iZipL (fa fb : FE) : FI := fun σ g => (fa σ g).bind fun r => match r.1 with | .lst xs => (fb σ r.2).bind fun q => (match q.1 with | .lst ys => some (zipD xs ys, q.2) | _ => none) | _ => none
theorem ItOk.zipL {K H ι a b vs us ds es} (hq : SqV K H ι a vs) (hr : RelL K H ι ds vs) (hq2 : SqV K H ι b us) (hr2 : RelL K H ι es us) : ItOk K (ItzL K a b) H ι (zipD ds es) := fun i H1 ι1 g1 e1 G1 =>
  ⟨fun hl => ⟨vs, us, (hq.exh e1).sq, (hq2.exh e1).sq, by
    have hl' : min ds.length es.length ≤ i := by simpa [zipD] using hl
    rw [← hr.length, ← hr2.length]; omega⟩, fun d hd => by
    unfold zipD at hd
    rw [List.getElem?_map] at hd
    cases hx : (ds.zip es)[i]? with
    | none => rw [hx] at hd; cases hd
    | some pr =>
      obtain ⟨d0, d1⟩ := pr
      rw [hx] at hd
      simp only [Option.map_some, Option.some.injEq] at hd
      subst hd
      rw [List.getElem?_zip_eq_some] at hx
      obtain ⟨v, hv, rv⟩ := (RelL.exh e1 _ hr).get hx.1
      obtain ⟨u, hu, ru⟩ := (RelL.exh e1 _ hr2).get hx.2
      refine ⟨⟨vs, us, v, u, (hq.exh e1).sq, (hq2.exh e1).sq, hv, hu⟩, fun x H2 y => ?_⟩
      obtain ⟨T, v', u', rfl, hn, rfl, hy⟩ := y
      obtain ⟨y1, y2⟩ := hy vs us (hq.exh e1).sq (hq2.exh e1).sq
      rw [hv] at y1
      rw [hu] at y2
      cases y1
      cases y2
      refine ⟨Ext.lay hn, G1.lay hn, ?_⟩
      simp only [Rel]
      refine ⟨T, _, rfl, .inl ⟨.inl upd_same, G1.fresh hn⟩, ?_⟩
      simp only [RelL]
      exact ⟨_, _, rfl, Rel.ext (Ext.lay hn) _ rv, _, _, rfl, Rel.ext (Ext.lay hn) _ ru, rfl⟩⟩
theorem di_zipL {X : Cx} {l m : Expr} {fa fb : FE} {p pos tp : Pos} {elts : List Expr} {kt : Nat} (hg : Gl X "zip") (hm : X.mg "zip" = none) (hl : DE X l fa) (hl2 : DE X m fb)
    (hs : starEach [l, m] X.env = (false, eval l X.env) :: starEach [m] X.env := by rfl) (hs2 : starEach [m] X.env = (false, eval m X.env) :: starEach [] X.env := by rfl) (hpl : (backTo pos (starEach [m] X.env)).any (·.1) = false := by rfl) :
    DI X (.Tuple elts kt tp) (.Call (.Name "zip" p) [l, m] [] pos) (iZipL fa fb) := .of (by
  intro pins s σ H R I h
  obtain ⟨ι, σd, g, ds, g', G0, S0, h, q⟩ := h
  obtain ⟨⟨d1, g1⟩, h1, h⟩ := bind_some h
  cases d1 with
  | lst xs =>
    obtain ⟨⟨d2, g2⟩, h2, h⟩ := bind_some h
    cases d2 with
    | lst ys =>
      cases h
      refine Call_ (ld_blt I hg hm PyProof.Rows.boot_zip (PyProof.Rows.callWith_type1 (thn ((pa_cons hl.un (pa_cons hl2.un pa_nil hs2) hs) pos pins s σ H (fun vs H1 => ∃ v u ι1, vs = [v, u] ∧ Ext H ι H1 ι1 ∧ RelG X.K H1 ι1 g2 ∧ Rel X.K H1 ι1 (.lst xs) v ∧ Rel X.K H1 ι1 (.lst ys) u) I ?_) fun us s1 ⟨vs, H1, I1, r1, v, u, ι1, e0, e1, G1, rd, rd2⟩ => ?_) hs hpl))
      · refine tD.bind G0 S0 h1 fun H1 ι1 v e1 G1 S1 r1 => ?_
        exact ⟨ι1, σd, g1, _, g2, G1, S1, h2, fun H2 ι2 u e2 G2 r2 => ⟨v, u, ι2, rfl, e1.trans e2, G2, Rel.ext e2 _ r1, r2⟩⟩
      · subst e0
        cases r1 with
        | cons ra rr =>
          cases rr with
          | cons rb rn =>
            cases rn
            simp only [Rel] at rd rd2
            obtain ⟨a, vs, rfl, hq, hr⟩ := rd
            obtain ⟨b, us, rfl, hq2, hr2⟩ := rd2
            cases ra
            cases rb
            obtain ⟨its, rv, pt, _⟩ := I1.list hq.sq
            obtain ⟨its2, rv2, pt2, _⟩ := I1.list hq2.sq
            refine call_zipL (show s1.heap.IsList a its.toArray from pt.isList) (show s1.heap.IsList b its2.toArray from pt2.isList) fun h' z1 z2 z3 z4 z5 hk => ?_
            refine wpAny_pyIter_zip z1 ?_
            have ne : ∀ {m n : Nat}, m ≠ n → (s1.heap.objs.size + m : Nat) ≠ s1.heap.objs.size + n := fun h q => h (Nat.add_left_cancel q)
            refine ⟨s1.heap.objs.size + 4, [s1.heap.objs.size + 4, s1.heap.objs.size + 2, s1.heap.objs.size + 3, s1.heap.objs.size, s1.heap.objs.size + 1], _, _, H1, rfl, I1.kept (t' := s1.toks) hk,
              turn_zipL a b _ _ _ _ _ (ne (by decide)) (ne (by decide)) (ne (m := 0) (by decide)) (ne (by decide)) (ne (by decide)) (ne (n := 0) (by decide)) (ne (by decide)) (ne (m := 0) (by decide)) (ne (n := 0) (by decide)) (ne (by decide)),
              ⟨z1, z2, ⟨_, _, z3⟩, z4, z5⟩, fun c hc => ?_, q H1 ι1 _ e1 G1 (.zipL hq hr hq2 hr2)⟩
            have le : s1.heap.objs.size ≤ c := by
              simp only [List.mem_cons, List.mem_nil_iff, or_false] at hc
              rcases hc with rfl | rfl | rfl | rfl | rfl
              · exact Nat.le_add_right _ _
              · exact Nat.le_add_right _ _
              · exact Nat.le_add_right _ _
              · exact Nat.le_refl _
              · exact Nat.le_add_right _ _
            exact I1.fpOk le (I1.hok.fresh le)
    | _ => cases h
  | _ => cases h)
@[simp] theorem ev_iZipL {fa fb : FE} {σ : Sg} {g : G} : iZipL fa fb σ g = (fa σ g).bind fun r => match r.1 with | .lst xs => (fb σ r.2).bind fun q => (match q.1 with | .lst ys => some (zipD xs ys, q.2) | _ => none) | _ => none := rfl
end L3
namespace Pd
open PySem L3 L2
noncomputable def handB : FS := fSeq (fAsg (fC (.int 0)) (gN 2)) (fSeq (fIf (fTest (fOp oLt (fVar 1) (fCall bLen (fCons (fVar 0) (fNil))))) (fAsg (fOp oIx (fVar 0) (fVar 1)) (gN 2)) (fSkip)) (fRet (fMk mkRef (fCons (fOp oMul (fVar 2) (fCall bInt (fCons (fOp oGe (fVar 2) (fOp (iOp okPow (fun i j => i ^ j.toNat)) (fC (.int 10)) (fC (.int 18)))) (fNil)))) (fCons (fOp oAdd (fOp oAdd (fOp (iOp okMod (· % ·)) (fVar 2) (fC (.int 2305843009213693951))) (fOp oMul (fC (.int 7919)) (fVar 1))) (fC (.int 3))) (fCons (fC (.int 0)) (fNil)))))))
noncomputable def takeB : FS := fSeq (fIf (fTest (fOp oGt (fOp oIx (fVar 0) (fC (.int 0))) (fC (.int 0)))) (fSeq (fAsg (fOp (iOp okMod (· % ·)) (fOp oIx (fVar 0) (fC (.int 0))) (fVar 1)) (gN 2)) (fSeq (fAsg (fOp (iOp okDiv (· / ·)) (fOp oIx (fVar 0) (fC (.int 0))) (fVar 1)) (gIx (fVar 0) (fC (.int 0)))) (fRet (fVar 2)))) (fSkip)) (fSeq (fAsg (fOp oAdd (fOp oIx (fVar 0) (fC (.int 2))) (fC (.int 1))) (gIx (fVar 0) (fC (.int 2)))) (fSeq (fAsg (fOp oIx (fVar 0) (fC (.int 2))) (gN 3)) (fSeq (fAsg (fOp (iOp okMod (· % ·)) (fOp oMul (fOp oIx (fVar 0) (fC (.int 1))) (fOp oAdd (fOp oAdd (fC (.int 48271)) (fOp oMul (fOp oMul (fC (.int 2)) (fVar 3)) (fVar 3))) (fOp oMul (fC (.int 65537)) (fVar 3)))) (fC (.int 2305843009213693921))) (gN 4)) (fSeq (fAsg (fOp oAdd (fOp oAdd (fOp (iOp okMod (· % ·)) (fVar 4) (fC (.int 1000003))) (fOp oMul (fVar 3) (fC (.int 99991)))) (fC (.int 11))) (gN 5)) (fSeq (fAsg (fOp (iOp okMod (· % ·)) (fOp oMul (fVar 4) (fVar 5)) (fC (.int 2305843009213693907))) (gN 4)) (fRet (fOp (iOp okMod (· % ·)) (fOp oAdd (fOp (iOp okDiv (· / ·)) (fVar 4) (fC (.int 97))) (fOp (iOp okDiv (· / ·)) (fVar 4) (fC (.int 1000033)))) (fVar 1))))))))
noncomputable def pickB (take : Fn) : FS := fRet (fOp oIx (fVar 1) (fCall take (fCons (fVar 0) (fCons (fCall bLen (fCons (fVar 1) (fNil))) (fNil)))))
theorem okMul_l {i j : Int} (h1 : -(2 ^ 64) < i) (h2 : i < 2 ^ 64) : okMul i j = true := by
  unfold okMul
  rw [Bool.or_eq_true]
  exact .inl (Nat.ble_eq_true_of_le (by omega))
theorem okMul_r {i j : Int} (h1 : -(2 ^ 64) < j) (h2 : j < 2 ^ 64) : okMul i j = true := by
  unfold okMul
  rw [Bool.or_eq_true]
  exact .inr (Nat.ble_eq_true_of_le (by omega))
theorem okDiv_of {i j : Int} (h1 : 0 < j) (h2 : j < 1073741824) : okDiv i j = true := by
  unfold okDiv
  rw [Bool.and_eq_true]
  exact ⟨Nat.ble_eq_true_of_le (by omega), Nat.ble_eq_true_of_le (by omega)⟩
theorem okMod_of {i j : Int} (h1 : 0 < j) : okMod i j = true := Nat.ble_eq_true_of_le (by omega)
noncomputable def Hd (g : G) (n : Nat) (B : Int) : Prop := ∃ a b c : Int, g[n]? = some [.int a, .int b, .int c] ∧ 0 ≤ a ∧ 0 ≤ b ∧ b < 2 ^ 62 ∧ 0 ≤ c ∧ c ≤ B
theorem Hd.mono {g n B B'} (h : Hd g n B) (hb : B ≤ B') : Hd g n B' := let ⟨a, b, c, h1, h2, h3, h4, h5, h6⟩ := h; ⟨a, b, c, h1, h2, h3, h4, h5, by omega⟩
theorem Hd.lt {g n B} (h : Hd g n B) : n < g.length := let ⟨_, _, _, h1, _⟩ := h; (List.getElem?_eq_some_iff.mp h1).1
noncomputable def Fr (n : Nat) (g g' : G) : Prop := g'.length = g.length ∧ ∀ j, j ≠ n → g'[j]? = g[j]?
theorem Fr.trans {n g g1 g2} (a : Fr n g g1) (b : Fr n g1 g2) : Fr n g g2 := ⟨b.1.trans a.1, fun j h => (b.2 j h).trans (a.2 j h)⟩
theorem Fr.set {n : Nat} {g : G} {xs : List D} : Fr n g (g.set n xs) := ⟨by simp, fun j h => by rw [List.getElem?_set_ne (Ne.symm h)]⟩
theorem at0 {a b c : D} : atI [a, b, c] 0 = some a := rfl
theorem at1 {a b c : D} : atI [a, b, c] 1 = some b := rfl
theorem at2 {a b c : D} : atI [a, b, c] 2 = some c := rfl
theorem put0 {g : G} {n : Nat} {a b c v : D} (h : g[n]? = some [a, b, c]) : putD (.ref n) (.int 0) v g = some (g.set n [v, b, c]) := by unfold putD; simp only [h]; rfl
theorem put2 {g : G} {n : Nat} {a b c v : D} (h : g[n]? = some [a, b, c]) : putD (.ref n) (.int 2) v g = some (g.set n [a, b, v]) := by unfold putD; simp only [h]; rfl
noncomputable def TakeOk (f : Fn) : Prop := ∀ (n : Nat) (m : Int) (g : G) (B : Int), B < 2 ^ 40 → 0 < m → m < 1073741824 → Hd g n B →
    ∃ r g', f [.ref n, .int m] g = some (.int r, g') ∧ 0 ≤ r ∧ r < m ∧ Hd g' n (B + 1) ∧ Fr n g g'
theorem take_ok : TakeOk (runFn false 6 2 takeB) := fun n m g B hB hm hm2 h => by
  obtain ⟨a, b, c, hg, ha, hb, hb2, hc, hcB⟩ := h
  have hn : n < g.length := (List.getElem?_eq_some_iff.mp hg).1
  by_cases h0 : 0 < a
  · refine ⟨a % m, g.set n [.int (a / m), .int b, .int c], ev_run (σ' := [some (.ref n), some (.int m), some (.int (a % m)), none, none, none]) rfl ?_ (by simp), Int.emod_nonneg _ (by omega), Int.emod_lt_of_pos _ hm, ⟨a / m, b, c, by simp [hn], Int.ediv_nonneg ha (by omega), hb, hb2, hc, by omega⟩, Fr.set⟩
    simp [takeB, hg, at0, h0, okMod_of hm, okDiv_of hm hm2, put0 hg]
  · have e2 : (g.set n [.int a, .int b, .int (c + 1)])[n]? = some [.int a, .int b, .int (c + 1)] := by simp [hn]
    generalize hx : b * (48271 + 2 * (c + 1) * (c + 1) + 65537 * (c + 1)) % 2305843009213693921 = x
    have hx0 : 0 ≤ x := by rw [← hx]; exact Int.emod_nonneg _ (by decide)
    have hx1 : x < 2305843009213693921 := by rw [← hx]; exact Int.emod_lt_of_pos _ (by decide)
    generalize hy : x * (x % 1000003 + (c + 1) * 99991 + 11) % 2305843009213693907 = y
    refine ⟨(y / 97 + y / 1000033) % m, g.set n [.int a, .int b, .int (c + 1)], ev_run (σ' := [some (.ref n), some (.int m), none, some (.int (c + 1)), some (.int y), some (.int (x % 1000003 + (c + 1) * 99991 + 11))]) rfl ?_ (by simp), Int.emod_nonneg _ (by omega), Int.emod_lt_of_pos _ hm, ⟨a, b, c + 1, e2, ha, hb, hb2, by omega, by omega⟩, Fr.set⟩
    have m1 : okMul 2 (c + 1) = true := okMul_l (by decide) (by decide)
    have m2 : okMul (2 * (c + 1)) (c + 1) = true := okMul_r (by omega) (by omega)
    have m3 : okMul 65537 (c + 1) = true := okMul_l (by decide) (by decide)
    have m4 : okMul b (48271 + 2 * (c + 1) * (c + 1) + 65537 * (c + 1)) = true := okMul_l (by omega) (by omega)
    have m5 : okMul (c + 1) 99991 = true := okMul_r (by decide) (by decide)
    have m6 : okMul x (x % 1000003 + (c + 1) * 99991 + 11) = true := okMul_l (by omega) (by omega)
    have d1 : okMod (b * (48271 + 2 * (c + 1) * (c + 1) + 65537 * (c + 1))) 2305843009213693921 = true := okMod_of (by decide)
    have d2 : okMod x 1000003 = true := okMod_of (by decide)
    have d3 : okMod (x * (x % 1000003 + (c + 1) * 99991 + 11)) 2305843009213693907 = true := okMod_of (by decide)
    have d4 : okMod (y / 97 + y / 1000033) m = true := okMod_of hm
    have q1 : okDiv y 97 = true := okDiv_of (by decide) (by decide)
    have q2 : okDiv y 1000033 = true := okDiv_of (by decide) (by decide)
    simp [takeB, hg, at0, at1, at2, h0, put2 hg, e2, m1, m2, m3, m4, m5, m6, d1, d2, d3, d4, q1, q2, hx, hy]
theorem TakeOk.w {f : Fn} (h : TakeOk f) {n : Nat} {m : Int} {g : G} {B : Int} {Q : D × G → Prop} (hB : B < 2 ^ 40) (hm : 0 < m) (hm2 : m < 1073741824) (hh : Hd g n B) (q : ∀ r g', 0 ≤ r → r < m → Hd g' n (B + 1) → Fr n g g' → Q (.int r, g')) : wp (f [.ref n, .int m] g) Q := by
  obtain ⟨r, g', e, r0, r1, h1, l1⟩ := h n m g B hB hm hm2 hh
  exact ⟨_, e, q r g' r0 r1 h1 l1⟩
noncomputable def PickOk (f : Fn) : Prop := ∀ (n : Nat) (xs : List D) (g : G) (B : Int), B < 2 ^ 40 → xs ≠ [] → xs.length < 1000 → Hd g n B →
    ∃ d g', f [.ref n, .lst xs] g = some (d, g') ∧ d ∈ xs ∧ Hd g' n (B + 1) ∧ Fr n g g'
theorem pick_ok {t : Fn} (ht : TakeOk t) : PickOk (runFn false 2 2 (pickB t)) := fun n xs g B hB hx hl h => by
  have h1 : 0 < xs.length := List.length_pos_iff.mpr hx
  obtain ⟨r, g', e, r0, r1, h', hl'⟩ := ht n (xs.length : Int) g B hB (by omega) (by omega) h
  have hr : r.toNat < xs.length := by omega
  have ha : atI xs r = some xs[r.toNat] := by
    unfold atI ixN
    rw [if_pos r0, if_pos r1]
    exact List.getElem?_eq_getElem hr
  refine ⟨xs[r.toNat], g', ev_run (σ' := [some (.ref n), some (.lst xs)]) rfl ?_ hl'.1, List.getElem_mem hr, h', hl'⟩
  simp [pickB, e, ha]
theorem PickOk.w {f : Fn} (h : PickOk f) {n : Nat} {xs : List D} {g : G} {B : Int} {Q : D × G → Prop} (hB : B < 2 ^ 40) (hx : xs ≠ []) (hl : xs.length < 1000) (hh : Hd g n B) (q : ∀ d g', d ∈ xs → Hd g' n (B + 1) → Fr n g g' → Q (d, g')) : wp (f [.ref n, .lst xs] g) Q := by
  obtain ⟨d, g', e, r0, h1, l1⟩ := h n xs g B hB hx hl hh
  exact ⟨_, e, q d g' r0 h1 l1⟩
theorem p18 : okPow 10 18 = true := by decide
noncomputable def HandOk (f : Fn) : Prop := ∀ (ns : List Int) (i : Nat) (g : G), i ≤ 100 → ∃ xs, f [.lst (ns.map .int), .int i] g = some (.ref g.length, g ++ [xs]) ∧ Hd (g ++ [xs]) g.length 0
section
variable {σ σ1 : Sg} {g g1 : G} {f : FE} {f1 f2 : FS} {c : FT} {d : D}
theorem seq_nx (h : f1 σ g = some (.nx, σ1, g1)) : fSeq f1 f2 σ g = f2 σ1 g1 := by rw [ev_fSeq, h]; rfl
theorem asg_n {i : Nat} (h : f σ g = some (d, g1)) : fAsg f (gN i) σ g = some (.nx, σ.set i (some d), g1) := by rw [ev_fAsg, h]; rfl
theorem if_t (h : c σ g = some (true, g1)) : fIf c f1 f2 σ g = f1 σ g1 := by rw [ev_fIf, h]; rfl
theorem if_f (h : c σ g = some (false, g1)) : fIf c f1 f2 σ g = f2 σ g1 := by rw [ev_fIf, h]; rfl
end
theorem hand_ok : HandOk (runFn true 3 2 handB) := fun ns i g hi => by
  have fin : ∀ cell : Int, ∃ xs, (fRet (fMk mkRef (fCons (fOp oMul (fVar 2) (fCall bInt (fCons (fOp oGe (fVar 2) (fOp (iOp okPow (fun i j => i ^ j.toNat)) (fC (.int 10)) (fC (.int 18)))) (fNil)))) (fCons (fOp oAdd (fOp oAdd (fOp (iOp okMod (· % ·)) (fVar 2) (fC (.int 2305843009213693951))) (fOp oMul (fC (.int 7919)) (fVar 1))) (fC (.int 3))) (fCons (fC (.int 0)) (fNil)))))) [some (.lst (ns.map .int)), some (.int i), some (.int cell)] g = some (.rt (.ref g.length), [some (.lst (ns.map .int)), some (.int i), some (.int cell)], g ++ [xs]) ∧ Hd (g ++ [xs]) g.length 0 := by
    intro cell
    have q0 : 0 ≤ cell % 2305843009213693951 := Int.emod_nonneg _ (by decide)
    have q1 : cell % 2305843009213693951 < 2305843009213693951 := Int.emod_lt_of_pos _ (by decide)
    have d1 : okMod cell 2305843009213693951 = true := okMod_of (by decide)
    have m2 : okMul 7919 (i : Int) = true := okMul_l (by decide) (by decide)
    by_cases hc : 1000000000000000000 ≤ cell
    · have m1 : okMul cell 1 = true := okMul_r (by decide) (by decide)
      refine ⟨[.int cell, .int (cell % 2305843009213693951 + 7919 * i + 3), .int 0], by simp [p18, hc, m1, m2, d1], ?_⟩
      exact ⟨cell, cell % 2305843009213693951 + 7919 * i + 3, 0, by simp, by omega, by omega, by omega, by omega, by omega⟩
    · have m1 : okMul cell 0 = true := okMul_r (by decide) (by decide)
      refine ⟨[.int 0, .int (cell % 2305843009213693951 + 7919 * i + 3), .int 0], by simp [p18, hc, m1, m2, d1], ?_⟩
      exact ⟨0, cell % 2305843009213693951 + 7919 * i + 3, 0, by simp, by omega, by omega, by omega, by omega, by omega⟩
  by_cases h : i < ns.length
  · obtain ⟨xs, e, hx⟩ := fin ns[i]
    refine ⟨xs, ev_runK (σ' := [some (.lst (ns.map .int)), some (.int i), some (.int ns[i])]) rfl ?_, hx⟩
    unfold handB
    refine (seq_nx (asg_n (d := .int 0) (g1 := g) rfl)).trans ?_
    refine (seq_nx (σ1 := [some (.lst (ns.map .int)), some (.int i), some (.int ns[i])]) (g1 := g) ((if_t (g1 := g) ?_).trans (asg_n ?_))).trans e
    · have : (i : Int) < (ns.length : Int) := by omega
      simp [this]
    · have ha : atI (ns.map D.int) (i : Int) = some (.int ns[i]) := atI_nat (by simp [h])
      simp [ha]
  · obtain ⟨xs, e, hx⟩ := fin 0
    refine ⟨xs, ev_runK (σ' := [some (.lst (ns.map .int)), some (.int i), some (.int 0)]) rfl ?_, hx⟩
    unfold handB
    refine (seq_nx (asg_n (d := .int 0) (g1 := g) rfl)).trans ?_
    refine (seq_nx (σ1 := [some (.lst (ns.map .int)), some (.int i), some (.int 0)]) (g1 := g) ((if_f (g1 := g) ?_).trans rfl)).trans e
    have : ¬ (i : Int) < (ns.length : Int) := by omega
    simp [this]
theorem HandOk.w {f : Fn} (h : HandOk f) {ns : List Int} {i : Nat} {g : G} {Q : D × G → Prop} (hi : i ≤ 100) (q : ∀ xs, Hd (g ++ [xs]) g.length 0 → Q (.ref g.length, g ++ [xs])) : wp (f [.lst (ns.map .int), .int i] g) Q := by
  obtain ⟨xs, e, hx⟩ := h ns i g hi
  exact ⟨_, e, q xs hx⟩
noncomputable def rng (i : Int) (n : Nat) : List D := (List.range n).map fun (k : Nat) => D.int (i + k)
theorem rng_len {i n} : (rng i n).length = n := by simp [rng]
theorem iR1_w {fr : FA} {σ : Sg} {g : G} {Q : List D × G → Prop} (h : wp (fr σ g) fun r => ∃ j : Int, r.1 = [.int j] ∧ -1000000 ≤ j ∧ j ≤ 1000000 ∧ Q (rng 0 j.toNat, r.2)) : wp (iR1 fr σ g) Q := by
  obtain ⟨⟨ds, g'⟩, e, j, rfl, h1, h2, q⟩ := h
  refine ⟨_, ?_, q⟩
  unfold iR1
  rw [e]
  simp only [Option.bind_some]
  rw [if_pos (okR.of h1 h2)]
  rfl
theorem rng_get {i : Int} {n j : Nat} {d : D} (h : (rng i n)[j]? = some d) : j < n ∧ d = .int (i + j) := by
  unfold rng at h
  rw [List.getElem?_map] at h
  cases hj : (List.range n)[j]? with
  | none => rw [hj] at h; cases h
  | some x =>
    rw [hj] at h
    have hl := (List.getElem?_eq_some_iff.mp hj).1
    have : x = j := by rw [List.getElem?_range (by simpa using hl)] at hj; cases hj; rfl
    subst this
    cases h
    exact ⟨by simpa using hl, rfl⟩
theorem rng_get0 {n j : Nat} {d : D} (h : (rng 0 n)[j]? = some d) : j < n ∧ d = .int j := by
  obtain ⟨h1, rfl⟩ := rng_get h
  exact ⟨h1, by simp⟩
end Pd
namespace Pd
open PySem L3 L2
noncomputable def Clean (g : G) : Prop := ∀ xs ∈ g, ∀ n, noRs n xs = true
theorem Clean.fr {n : Nat} {g g' : G} {B : Int} (hc : Clean g) (f : Fr n g g') (h : Hd g' n B) : Clean g' := by
  intro xs hx m
  obtain ⟨j, hj⟩ := List.mem_iff_getElem?.mp hx
  by_cases e : j = n
  · subst e
    obtain ⟨a, b, c, h1, _⟩ := h
    rw [h1] at hj
    cases hj
    simp [noRs, noR]
  · rw [f.2 j e] at hj
    exact hc xs (List.mem_iff_getElem?.mpr ⟨j, hj⟩) m
theorem Clean.app {g : G} {xs : List D} {B : Int} (hc : Clean g) (h : Hd (g ++ [xs]) g.length B) : Clean (g ++ [xs]) := by
  obtain ⟨a, b, c, h1, _⟩ := h
  simp at h1
  subst h1
  intro ys hy m
  rcases List.mem_append.mp hy with hy | hy
  · exact hc ys hy m
  · simp at hy
    subst hy
    simp [noRs, noR]
theorem noRs_of {n : Nat} : ∀ {xs : List D}, (∀ x ∈ xs, noR n x = true) → noRs n xs = true
  | [], _ => rfl
  | x :: xs, h => by
    simp only [noRs, Bool.and_eq_true]
    exact ⟨h x (by simp), noRs_of fun y hy => h y (by simp [hy])⟩
theorem noRs_mem {n : Nat} : ∀ {xs : List D}, noRs n xs = true → ∀ x ∈ xs, noR n x = true
  | [], _, x, hx => by simp at hx
  | y :: xs, h, x, hx => by
    simp only [noRs, Bool.and_eq_true] at h
    rcases List.mem_cons.mp hx with rfl | hx
    · exact h.1
    · exact noRs_mem h.2 x hx
theorem noRs_app {n : Nat} {xs ys : List D} (h : noRs n xs = true) (h2 : noRs n ys = true) : noRs n (xs ++ ys) = true := noRs_of fun x hx => by
  rcases List.mem_append.mp hx with hx | hx
  · exact noRs_mem h x hx
  · exact noRs_mem h2 x hx
theorem at_nat {xs : List D} {n : Nat} {d : D} (h : xs[n]? = some d) : atI xs (n : Int) = some d := by
  have hl := (List.getElem?_eq_some_iff.mp h).1
  have h1 : (0 : Int) ≤ n := by omega
  have h2 : (n : Int) < (xs.length : Int) := by omega
  unfold atI ixN
  rw [if_pos h1, if_pos h2]
  simpa using h
theorem at2_0 {a b : D} : atI [a, b] 0 = some a := rfl
theorem at2_1 {a b : D} : atI [a, b] 1 = some b := rfl
theorem ints_map : ∀ vs : List Int, intsD (vs.map .int) = some vs
  | [] => rfl
  | v :: vs => by simp [intsD, ints_map vs]
theorem pure_any {fn : Fn} {ds : List D} {d : D} {g0 g1 : G} (h : pureFn fn ds g0 = some (d, g1)) (g : G) : pureFn fn ds g = some (d, g) := by
  obtain ⟨h1, ⟨gx, hx⟩, h2, _⟩ := pureFn_some h
  exact pure_eq h1 hx h2 g
theorem odd_pick {f : α → D} {sts : List α} {e : List D} {g : G} (hl : sts.length ≤ 100) (he : e = [] ∨ e = [.non]) : oSl3 (.tup ((sts.flatMap fun st => [D.non, f st]) ++ e)) (some 1) none (some 2) g = some (.tup (sts.map f), g) := by
  have len : ((sts.flatMap fun st => [D.non, f st]) ++ e).length = 2 * sts.length + e.length := by
    have : ∀ sts : List α, (sts.flatMap fun st => [D.non, f st]).length = 2 * sts.length := fun sts => by
      induction sts with
      | nil => rfl
      | cons a r ih => simp [ih]; omega
    rw [List.length_append, this]
  have le : e.length ≤ 1 := by rcases he with rfl | rfl <;> simp
  have hp : (placesD (2 * sts.length + e.length) (some 1) none 2).2 = sts.length := by
    simp only [placesD, Builtin.Slice.sliceAdjust, Builtin.Slice.slicePlaces]
    rcases he with rfl | rfl <;> simp <;> split <;> omega
  have hq : 0 < sts.length → (placesD (2 * sts.length + e.length) (some 1) none 2).1 = 1 := by
    intro h
    simp only [placesD, Builtin.Slice.sliceAdjust, Builtin.Slice.slicePlaces]
    simp; omega
  have get : ∀ (sts : List α) (i : Nat) (e : List D), i < sts.length → ((sts.flatMap fun st => [D.non, f st]) ++ e)[1 + i * 2]? = (sts.map f)[i]? := by
    intro sts
    induction sts with
    | nil => intro i e h; simp at h
    | cons a r ih =>
      intro i e h
      cases i with
      | zero => rfl
      | succ j =>
        have := ih j e (by simpa using h)
        rw [show 1 + (j + 1) * 2 = (1 + j * 2) + 1 + 1 by omega]
        simpa using this
  unfold oSl3
  have hz : szOk sts.length = true := sz_of (by omega)
  simp only [len, hp, hz]
  rw [if_pos (by decide)]
  congr 3
  unfold pickL
  by_cases h0 : 0 < sts.length
  · rw [hq h0]
    apply List.ext_getElem?
    intro i
    have key : (List.range sts.length).filterMap (fun (k : Nat) => ((sts.flatMap fun st => [D.non, f st]) ++ e)[((1 : Int) + (k : Int) * 2).toNat]?) = (List.range sts.length).filterMap fun k => (sts.map f)[k]? := by
      have cg : ∀ (l : List Nat) (a b : Nat → Option D), (∀ k ∈ l, a k = b k) → l.filterMap a = l.filterMap b := by
        intro l a b
        induction l with
        | nil => intro _; rfl
        | cons x r ih =>
          intro h
          rw [List.filterMap_cons, List.filterMap_cons, h x (by simp), ih fun k hk => h k (by simp [hk])]
      apply cg
      intro k hk
      rw [List.mem_range] at hk
      rw [show ((1 : Int) + (k : Int) * 2).toNat = 1 + k * 2 by omega]
      exact get sts k e hk
    rw [key]
    congr 1
    have : ∀ (l : List D), (List.range l.length).filterMap (fun k => l[k]?) = l := by
      intro l
      induction l with
      | nil => rfl
      | cons a r ih =>
        rw [List.length_cons, List.range_succ_eq_map, List.filterMap_cons]
        simp only [List.getElem?_cons_zero, List.filterMap_map]
        congr 1
    have h2 := this (sts.map f)
    rw [List.length_map] at h2
    exact h2
  · have : sts = [] := List.length_eq_zero_iff.mp (by omega)
    subst this
    rfl
structure Mk (g gg : G) (n : Nat) (B : Int) (xs : List D) : Prop where
  hd : Hd gg n B
  lt : n < g.length
  len : gg.length = g.length + 1
  at_ : gg[g.length]? = some xs
  old : ∀ j, j ≠ n → j < g.length → gg[j]? = g[j]?
theorem Mk.init {g : G} {n : Nat} {B : Int} {xs : List D} (h : Hd g n B) : Mk g (g ++ [xs]) n B xs := by
  have hl := h.lt
  obtain ⟨a, b, c, h1, h2⟩ := h
  exact ⟨⟨a, b, c, by rw [List.getElem?_append_left hl]; exact h1, h2⟩, hl, by simp, by simp, fun j _ hj => List.getElem?_append_left hj⟩
theorem Mk.step {g gg g' : G} {n : Nat} {B B' : Int} {xs : List D} (m : Mk g gg n B xs) (h : Hd g' n B') (f : Fr n gg g') : Mk g g' n B' xs := by
  have := m.lt
  exact ⟨h, m.lt, by rw [f.1]; exact m.len, by rw [f.2 _ (by omega)]; exact m.at_, fun j hj hl => by rw [f.2 j hj]; exact m.old j hj hl⟩
theorem Mk.put {g gg : G} {n : Nat} {B : Int} {xs ys : List D} (m : Mk g gg n B xs) : Mk g (gg.set g.length ys) n B ys := by
  have h1 := m.lt
  have h2 := m.len
  obtain ⟨a, b, c, h3, h4⟩ := m.hd
  refine ⟨⟨a, b, c, by rw [List.getElem?_set_ne (by omega)]; exact h3, h4⟩, h1, by simp [h2], by simp [h2], fun j hj hl => by rw [List.getElem?_set_ne (by omega)]; exact m.old j hj hl⟩
theorem Mk.mono {g gg : G} {n : Nat} {B B' : Int} {xs : List D} (m : Mk g gg n B xs) (h : B ≤ B') : Mk g gg n B' xs := ⟨m.hd.mono h, m.lt, m.len, m.at_, m.old⟩
theorem Mk.fin {g gg : G} {n : Nat} {B : Int} {xs : List D} (m : Mk g gg n B xs) : Hd (gg.take g.length) n B ∧ Fr n g (gg.take g.length) := by
  have h1 := m.lt
  have h2 := m.len
  obtain ⟨a, b, c, h3, h4⟩ := m.hd
  refine ⟨⟨a, b, c, by rw [List.getElem?_take_of_lt h1]; exact h3, h4⟩, by simp [h2], fun j hj => ?_⟩
  by_cases hl : j < g.length
  · rw [List.getElem?_take_of_lt hl]; exact m.old j hj hl
  · rw [List.getElem?_eq_none (by simp; omega), List.getElem?_eq_none (by omega)]
end Pd
namespace Pd
open PySem L3 L2
structure Nest (g gg : G) (n : Nat) (B : Int) (xs : List D) : Prop where
  hd : Hd gg n B
  lt : n < g.length
  len : g.length + 1 ≤ gg.length
  at_ : gg[g.length]? = some xs
  old : ∀ j, j ≠ n → j < g.length → gg[j]? = g[j]?
theorem put_ok {g : G} {p : Nat} {xs : List D} {i : Nat} {v : D} (h : g[p]? = some xs) (hi : i < xs.length) : putD (.ref p) (.int i) v g = some (g.set p (xs.set i v)) := by
  have h1 : ixN xs.length (i : Int) = some i := by
    unfold ixN
    rw [if_pos (by omega), if_pos (by omega)]
    simp
  unfold putD
  simp only [h, h1]
end Pd
namespace K61
open PySem L3
noncomputable def tbl_NUMBERS : List (Str × D) := [("once", .tup [.str "hands"]), ("twice", .tup [.str "hands", .str "turn"]), ("handed", .tup [.str "hands", .str "turn", .str "moves"]), ("signs", .tup [.str "hands", .str "toggles", .str "shakes", .str "moves"]), ("shared", .tup [.str "hands", .str "places", .str "toggles", .str "shakes", .str "moves"]), ("tables", .tup [.str "hands", .str "boxes"])]
noncomputable def b_1 (T : Nat → Fn) : FS := fSeq (fAsg (fMk mkRef (fCons (fMk mkTup (fCons (fVar 1) (fCons (fC (.int 1)) (fNil)))) (fNil))) (gN 4)) (fSeq (fFor (iSeq (fSl3 (fVar 3) (fPart (fC (.int 1))) (fNoP) (fPart (fC (.int 2))))) (gN 5) (fDrop (fApp (fVar 4) (fCall (T 3) (fCons (fOp oAdd (fMk mkLst (fCons (fOp oIx (fVar 4) (fUn uNeg (fC (.int 1)))) (fNil))) (fCall (T 2) (fCons (fVar 0) (fCons (fCall bLen (fCons (fVar 4) (fNil))) (fCons (fVar 5) (fNil)))))) (fNil)))))) (fSeq (fIf (fTest (fOp oGt (fCall bLen (fCons (fVar 4) (fNil))) (fVar 2))) (fRet (fMk mkTup (fCons (fC .non) (fCons (fOp oIx (fVar 4) (fVar 2)) (fNil))))) (fSkip)) (fSeq (fIf (fTest (fOp oEq (fOp (iOp okMod (· % ·)) (fCall bLen (fCons (fVar 3) (fNil))) (fC (.int 2))) (fC (.int 0)))) (fRet (fMk mkTup (fCons (fMk mkTup (fCons (fC (.str "put")) (fCons (fVar 0) (fCons (fCall bTup (fCons (fVar 4) (fNil))) (fNil))))) (fCons (fC .non) (fNil))))) (fSkip)) (fRet (fMk mkTup (fCons (fMk mkTup (fCons (fC (.str "look")) (fNil))) (fCons (fC .non) (fNil))))))))
noncomputable def b_2 (T : Nat → Fn) : FS := fSeq (fAsg (fComp cLst (iEnumT (fVar 2)) [none, none, some 0] (gT 2 (gConss (gN 0) (gConss (gN 1) (gNils)))) (fAnd (fTest (fOp oNeD (fVar 0) (fVar 2))) (fTru (fIsi .tuple (fVar 1)))) (fVar 1)) (gN 3)) (fRet (fComp cLst (iSeq (fVar 3)) [none, some 1] (gN 0) (fTest (fOp oGe (fCall bLen (fCons (fVar 0) (fNil))) (fVar 1))) (fOp oIx (fVar 0) (fOp (iOp okAny (· - ·)) (fVar 1) (fC (.int 1))))))
noncomputable def b_3 (T : Nat → Fn) : FS := fSeq (fAsg (fOp oIx (fVar 0) (fC (.int 0))) (gN 1)) (fSeq (fAsg (fOp oIx (fVar 0) (fC (.int 0))) (gN 2)) (fSeq (fFor (iSeq (fVar 0)) (gN 3) (fSeq (fIf (fTru (fCall (T 4) (fCons (fVar 3) (fCons (fVar 1) (fNil))))) (fAsg (fVar 3) (gN 1)) (fSkip)) (fIf (fTru (fCall (T 4) (fCons (fVar 2) (fCons (fVar 3) (fNil))))) (fAsg (fVar 3) (gN 2)) (fSkip)))) (fRet (fCall (T 5) (fCons (fVar 1) (fCons (fVar 2) (fNil)))))))
noncomputable def b_4 (T : Nat → Fn) : FS := fRet (fOp oLt (fOp oMul (fOp oIx (fVar 0) (fC (.int 0))) (fOp oIx (fVar 1) (fC (.int 1)))) (fOp oMul (fOp oIx (fVar 1) (fC (.int 0))) (fOp oIx (fVar 0) (fC (.int 1)))))
noncomputable def b_5 (T : Nat → Fn) : FS := fRet (fCall (T 6) (fCons (fOp oAdd (fOp oMul (fOp oIx (fVar 0) (fC (.int 0))) (fOp oIx (fVar 1) (fC (.int 1)))) (fOp oMul (fOp oIx (fVar 1) (fC (.int 0))) (fOp oIx (fVar 0) (fC (.int 1))))) (fCons (fOp oMul (fOp oMul (fC (.int 2)) (fOp oIx (fVar 0) (fC (.int 1)))) (fOp oIx (fVar 1) (fC (.int 1)))) (fNil))))
noncomputable def b_6 (T : Nat → Fn) : FS := fSeq (fAsg (fCall (T 7) (fCons (fCall bAbs (fCons (fVar 0) (fNil))) (fCons (fVar 1) (fNil)))) (gN 2)) (fRet (fMk mkTup (fCons (fOp (iOp okDiv (· / ·)) (fVar 0) (fVar 2)) (fCons (fOp (iOp okDiv (· / ·)) (fVar 1) (fVar 2)) (fNil)))))
noncomputable def b_7 (T : Nat → Fn) : FS := fSeq (fWh 1000000000 (fTest (fOp oNeD (fVar 1) (fC (.int 0)))) (fSeq (fAsg (fOp (iOp okMod (· % ·)) (fVar 0) (fVar 1)) (gN 2)) (fSeq (fAsg (fVar 1) (gN 0)) (fAsg (fVar 2) (gN 1))))) (fRet (fVar 0))
noncomputable def b_10 (T : Nat → Fn) : FS := fRet (fOp oIx (fVar 0) (fOp oAdd (fC (.int 1)) (fDIdx tbl_NUMBERS (fOp oIx (fVar 0) (fC (.int 0))) (fVar 1))))
noncomputable def b_11 (T : Nat → Fn) : FS := fRet (fCall (T 10) (fCons (fVar 0) (fCons (fC (.str "hands")) (fNil))))
noncomputable def b_20 (T : Nat → Fn) : FS := fSeq (fAsg (fCall bLen (fCons (fVar 2) (fNil))) (gN 3)) (fSeq (fIf (fTest (fOp oLt (fVar 3) (fCall bLen (fCons (fVar 1) (fNil))))) (fRet (fMk mkTup (fCons (fCall (T 21) (fCons (fVar 0) (fCons (fVar 1) (fCons (fVar 3) (fNil))))) (fCons (fC .non) (fNil))))) (fSkip)) (fRet (fMk mkTup (fCons (fC .non) (fCons (fCall bTup (fCons (fComp cLst (iEnumT (fVar 1)) [none, none, some 2] (gT 2 (gConss (gN 0) (gConss (gN 1) (gNils)))) (fTest (fOp oIs (fVar 1) (fC .non))) (fCall bSumS (fCons (fOp oIx (fVar 2) (fVar 0)) (fNil)))) (fNil))) (fNil))))))
noncomputable def b_21 (T : Nat → Fn) : FS := fSeq (fIf (fTest (fOp oIs (fOp oIx (fVar 1) (fVar 2)) (fC .non))) (fRet (fMk mkTup (fCons (fC (.str "look")) (fNil)))) (fSkip)) (fRet (fMk mkTup (fCons (fC (.str "put")) (fCons (fVar 0) (fCons (fCall bSumS (fCons (fComp cLst (iSeq (fSl (fVar 1) (fNoP) (fPart (fOp oAdd (fVar 2) (fC (.int 1)))))) [none] (gN 0) (fTest (fOp oIsnt (fVar 0) (fC .non))) (fVar 0)) (fNil))) (fNil))))))
noncomputable def b_23 (T : Nat → Fn) : FS := fRet (fOp oIx (fCall (T 24) (fCons (fVar 0) (fCons (fVar 1) (fCons (fVar 2) (fNil))))) (fC (.int 1)))
noncomputable def b_24 (T : Nat → Fn) : FS := fSeq (fAsg (fOp oIx (fVar 1) (fC (.int 0))) (gN 3)) (fSeq (fIf (fTest (fOp oEq (fVar 3) (fC (.str "sums")))) (fRet (fCall (T 20) (fCons (fVar 0) (fCons (fOp oIx (fVar 1) (fC (.int 1))) (fCons (fVar 2) (fNil)))))) (fSkip)) (fSeq (fIf (fTest (fOp oEq (fVar 3) (fC (.str "name")))) (fRet (fNone)) (fSkip)) (fSeq (fIf (fTest (fOp oEq (fVar 3) (fC (.str "least")))) (fRet (fNone)) (fSkip)) (fSeq (fIf (fTest (fOp oEq (fVar 3) (fC (.str "closer")))) (fRet (fCall (T 1) (fCons (fVar 0) (fCons (fOp oIx (fVar 1) (fC (.int 1))) (fCons (fOp oIx (fVar 1) (fC (.int 2))) (fCons (fVar 2) (fNil))))))) (fSkip)) (fRet (fCall (T 25) (fCons (fOp oIx (fVar 1) (fC (.int 1))) (fCons (fVar 2) (fNil)))))))))
noncomputable def b_25 (T : Nat → Fn) : FS := fSeq (fIf (fTest (fOp oLt (fCall bLen (fCons (fVar 1) (fNil))) (fCall bLen (fCons (fVar 0) (fNil))))) (fRet (fMk mkTup (fCons (fOp oIx (fVar 0) (fCall bLen (fCons (fVar 1) (fNil)))) (fCons (fC .non) (fNil))))) (fSkip)) (fRet (fMk mkTup (fCons (fC .non) (fCons (fMk mkTup (fNil)) (fNil)))))
noncomputable def b_27 (T : Nat → Fn) : FS := fSeq (fAsg (fOp oIx (fVar 1) (fC (.int 1))) (gN 2)) (fRet (fComp cLst (iEnumT (fVar 0)) [none, none, some 2] (gT 2 (gConss (gN 0) (gConss (gN 1) (gNils)))) (fTrue) (fCall (T 23) (fCons (fVar 0) (fCons (fVar 1) (fCons (fOp oIx (fOp oIx (fVar 2) (fVar 0)) (fC (.int 0))) (fNil)))))))
noncomputable def b_29 (T : Nat → Fn) : FS := fSeq (fAsg (fComp cLst (iSeq (fCall (T 27) (fCons (fVar 1) (fCons (fVar 2) (fNil))))) [none] (gN 0) (fTest (fOp oIsnt (fVar 0) (fC .non))) (fVar 0)) (gN 3)) (fSeq (fAsg (fOp oIx (fOp oIx (fVar 1) (fC (.int 0))) (fC (.int 0))) (gN 4)) (fSeq (fIf (fTest (fOp oEq (fVar 4) (fC (.str "name")))) (fRet (fNone)) (fSkip)) (fSeq (fIf (fTest (fOp oEq (fVar 4) (fC (.str "least")))) (fRet (fNone)) (fSkip)) (fSeq (fIf (fTest (fOp oEq (fVar 4) (fC (.str "closer")))) (fRet (fCall (T 32) (fCons (fVar 3) (fCons (fComp cLst (iSeq (fVar 1)) [none] (gN 0) (fTrue) (fOp oIx (fVar 0) (fC (.int 1)))) (fCons (fOp oIx (fOp oIx (fVar 1) (fC (.int 0))) (fC (.int 2))) (fNil)))))) (fSkip)) (fRet (fC (.bl true)))))))
noncomputable def b_32 (T : Nat → Fn) : FS := fSeq (fAsg (fCall bMinL (fCons (fVar 1) (fNil))) (gN 3)) (fSeq (fAsg (fCall bMaxL (fCons (fVar 1) (fNil))) (gN 4)) (fSeq (fIf (fNot (fTru (fCall bAll (fCons (fComp cLst (iSeq (fVar 0)) [none, none, some 3, some 4] (gT 2 (gConss (gN 0) (gConss (gN 1) (gNils)))) (fTrue) (fChain oLe oLe (fOp oMul (fVar 2) (fVar 1)) (fVar 0) (fOp oMul (fVar 3) (fVar 1)))) (fNil))))) (fRet (fC (.bl false))) (fSkip)) (fSeq (fFor (iSeq (fVar 0)) (gN 5) (fIf (fNot (fTru (fCall bAll (fCons (fComp cLst (iSeq (fVar 0)) [none, some 5, some 4, some 3, some 2] (gN 0) (fTrue) (fCall (T 33) (fCons (fVar 1) (fCons (fVar 0) (fCons (fOp (iOp okAny (· - ·)) (fVar 2) (fVar 3)) (fCons (fVar 4) (fNil))))))) (fNil))))) (fRet (fC (.bl false))) (fSkip))) (fRet (fC (.bl true))))))
noncomputable def b_33 (T : Nat → Fn) : FS := fSeq (fAsg (fCall bAbs (fCons (fOp (iOp okAny (· - ·)) (fOp oMul (fOp oIx (fVar 0) (fC (.int 0))) (fOp oIx (fVar 1) (fC (.int 1)))) (fOp oMul (fOp oIx (fVar 1) (fC (.int 0))) (fOp oIx (fVar 0) (fC (.int 1))))) (fNil))) (gN 4)) (fRet (fOp oLe (fOp oMul (fVar 4) (fOp (iOp okPow (fun i j => i * 2 ^ j.toNat)) (fC (.int 1)) (fVar 3))) (fOp oMul (fOp oMul (fVar 2) (fOp oIx (fVar 0) (fC (.int 1)))) (fOp oIx (fVar 1) (fC (.int 1))))))
noncomputable def b_35 (T : Nat → Fn) : FS := fRet (fCall bTup (fCons (fCall bSortT (fCons (fCall (T 36) (fCons (fVar 0) (fNil))) (fNil))) (fNil)))
noncomputable def b_36 (T : Nat → Fn) : FS := fSeq (fAsg (fOp oIx (fVar 0) (fC (.int 0))) (gN 1)) (fSeq (fIf (fTest (fOp oEq (fVar 1) (fC (.str "tables")))) (fRet (fCall (T 40) (fCons (fC (.str "box")) (fCons (fCall (T 10) (fCons (fVar 0) (fCons (fC (.str "boxes")) (fNil)))) (fCons (fC (.int 0)) (fNil)))))) (fSkip)) (fSeq (fIf (fTest (fOp oEq (fVar 1) (fC (.str "shared")))) (fRet (fNone)) (fSkip)) (fSeq (fAsg (fCall (T 40) (fCons (fC (.str "own")) (fCons (fCall (T 11) (fCons (fVar 0) (fNil))) (fCons (fCall (T 38) (fCons (fVar 0) (fNil))) (fNil))))) (gN 2)) (fSeq (fIf (fTest (fOp oEq (fVar 1) (fC (.str "signs")))) (fRet (fOp oAdd (fVar 2) (fCall (T 39) (fCons (fVar 0) (fCons (fMk mkTup (fCons (fC (.str "sign")) (fNil))) (fNil)))))) (fSkip)) (fRet (fVar 2))))))
noncomputable def b_38 (T : Nat → Fn) : FS := fSeq (fAsg (fOp oIx (fVar 0) (fC (.int 0))) (gN 1)) (fSeq (fIf (fTest (fOp oEq (fVar 1) (fC (.str "once")))) (fRet (fC (.int 0))) (fSkip)) (fSeq (fIf (fTest (fOp oEq (fVar 1) (fC (.str "twice")))) (fRet (fMk mkTup (fCons (fC (.int 0)) (fCons (fC (.int 0)) (fNil))))) (fSkip)) (fSeq (fAsg (fCall (T 42) (fCons (fCall (T 11) (fCons (fVar 0) (fNil))) (fNil))) (gN 2)) (fSeq (fIf (fTest (fOp oEq (fVar 1) (fC (.str "handed")))) (fRet (fMk mkTup (fCons (fC (.int 0)) (fCons (fC (.int 0)) (fCons (fVar 2) (fNil)))))) (fSkip)) (fRet (fMk mkTup (fCons (fC (.int 0)) (fCons (fVar 2) (fCons (fC (.int 0)) (fCons (fVar 2) (fNil)))))))))))
noncomputable def b_39 (T : Nat → Fn) : FS := fSeq (fAsg (fMk mkRef (fNil)) (gN 2)) (fSeq (fIf (fTest (fOp oEq (fCall (T 10) (fCons (fVar 0) (fCons (fC (.str "shakes")) (fNil)))) (fC (.int 1)))) (fFor (iSeq (fVar 1)) (gN 3) (fDrop (fExt (fVar 2) (fCall (T 41) (fCons (fVar 3) (fCons (fCall (T 11) (fCons (fVar 0) (fNil))) (fNil))))))) (fSkip)) (fRet (fVar 2)))
noncomputable def b_40 (T : Nat → Fn) : FS := fRet (fComp cLst (iR1 (fCons (fVar 1) (fNil))) [none, some 0, some 2] (gN 0) (fTrue) (fMk mkTup (fCons (fMk mkTup (fCons (fVar 1) (fCons (fVar 0) (fNil)))) (fCons (fVar 2) (fNil)))))
noncomputable def b_41 (T : Nat → Fn) : FS := fSeq (fAsg (fMk mkRef (fNil)) (gN 2)) (fSeq (fFor (iR1 (fCons (fVar 1) (fNil))) (gN 3) (fDrop (fExt (fVar 2) (fComp cLst (iR1 (fCons (fVar 1) (fNil))) [none, some 3, some 0] (gN 0) (fTest (fOp oNeD (fVar 0) (fVar 1))) (fMk mkTup (fCons (fMk mkTup (fCons (fVar 2) (fCons (fVar 1) (fCons (fVar 0) (fNil))))) (fCons (fC (.int 0)) (fNil)))))))) (fRet (fVar 2)))
noncomputable def b_42 (T : Nat → Fn) : FS := fRet (fOp oMul (fMk mkTup (fCons (fC (.int 0)) (fNil))) (fVar 0))
noncomputable def b_44 (T : Nat → Fn) : FS := fRet (fMk mkTup (fCons (fCall (T 35) (fCons (fVar 0) (fNil))) (fCons (fOp oMul (fMk mkTup (fCons (fMk mkTup (fCons (fMk mkTup (fNil)) (fCons (fMk mkTup (fNil)) (fCons (fMk mkTup (fNil)) (fNil))))) (fNil))) (fCall (T 11) (fCons (fVar 0) (fNil)))) (fNil))))
noncomputable def b_46 (T : Nat → Fn) : FS := fSeq (fAsg (fC (.int 0)) (gN 2)) (fSeq (fIf (fTest (fOp oLt (fVar 1) (fCall bLen (fCons (fVar 0) (fNil))))) (fAsg (fOp oIx (fVar 0) (fVar 1)) (gN 2)) (fSkip)) (fRet (fMk mkRef (fCons (fOp oMul (fVar 2) (fCall bInt (fCons (fOp oGe (fVar 2) (fOp (iOp okPow (fun i j => i ^ j.toNat)) (fC (.int 10)) (fC (.int 18)))) (fNil)))) (fCons (fOp oAdd (fOp oAdd (fOp (iOp okMod (· % ·)) (fVar 2) (fC (.int 2305843009213693951))) (fOp oMul (fC (.int 7919)) (fVar 1))) (fC (.int 3))) (fCons (fC (.int 0)) (fNil)))))))
noncomputable def b_47 (T : Nat → Fn) : FS := fSeq (fIf (fTest (fOp oGt (fOp oIx (fVar 0) (fC (.int 0))) (fC (.int 0)))) (fSeq (fAsg (fOp (iOp okMod (· % ·)) (fOp oIx (fVar 0) (fC (.int 0))) (fVar 1)) (gN 2)) (fSeq (fAsg (fOp (iOp okDiv (· / ·)) (fOp oIx (fVar 0) (fC (.int 0))) (fVar 1)) (gIx (fVar 0) (fC (.int 0)))) (fRet (fVar 2)))) (fSkip)) (fSeq (fAsg (fOp oAdd (fOp oIx (fVar 0) (fC (.int 2))) (fC (.int 1))) (gIx (fVar 0) (fC (.int 2)))) (fSeq (fAsg (fOp oIx (fVar 0) (fC (.int 2))) (gN 3)) (fSeq (fAsg (fOp (iOp okMod (· % ·)) (fOp oMul (fOp oIx (fVar 0) (fC (.int 1))) (fOp oAdd (fOp oAdd (fC (.int 48271)) (fOp oMul (fOp oMul (fC (.int 2)) (fVar 3)) (fVar 3))) (fOp oMul (fC (.int 65537)) (fVar 3)))) (fC (.int 2305843009213693921))) (gN 4)) (fSeq (fAsg (fOp oAdd (fOp oAdd (fOp (iOp okMod (· % ·)) (fVar 4) (fC (.int 1000003))) (fOp oMul (fVar 3) (fC (.int 99991)))) (fC (.int 11))) (gN 5)) (fSeq (fAsg (fOp (iOp okMod (· % ·)) (fOp oMul (fVar 4) (fVar 5)) (fC (.int 2305843009213693907))) (gN 4)) (fRet (fOp (iOp okMod (· % ·)) (fOp oAdd (fOp (iOp okDiv (· / ·)) (fVar 4) (fC (.int 97))) (fOp (iOp okDiv (· / ·)) (fVar 4) (fC (.int 1000033)))) (fVar 1))))))))
noncomputable def b_48 (T : Nat → Fn) : FS := fRet (fOp oIx (fVar 1) (fCall (T 47) (fCons (fVar 0) (fCons (fCall bLen (fCons (fVar 1) (fNil))) (fNil)))))
noncomputable def b_49 (T : Nat → Fn) : FS := fSeq (fAsg (fCall (T 47) (fCons (fVar 0) (fCons (fC (.int 4)) (fNil)))) (gN 2)) (fSeq (fPar 3 4 (fCons (fCall (T 48) (fCons (fVar 0) (fCons (fMk mkLst (fCons (fC (.int 0)) (fCons (fC (.int 0)) (fCons (fC (.int 2)) (fCons (fC (.int 9)) (fNil)))))) (fNil)))) (fCons (fOp oAdd (fC (.int 1)) (fCall (T 47) (fCons (fVar 0) (fCons (fC (.int 4)) (fNil))))) (fNil)))) (fRet (fOp oIx (fMk mkLst (fCons (fMk mkTup (fCons (fC (.str "once")) (fCons (fVar 1) (fNil)))) (fCons (fMk mkTup (fCons (fC (.str "twice")) (fCons (fVar 1) (fCons (fVar 3) (fNil))))) (fCons (fMk mkTup (fCons (fC (.str "handed")) (fCons (fVar 1) (fCons (fVar 3) (fCons (fVar 4) (fNil)))))) (fCons (fMk mkTup (fCons (fC (.str "signs")) (fCons (fVar 1) (fCons (fCall (T 47) (fCons (fVar 0) (fCons (fC (.int 2)) (fNil)))) (fCons (fCall (T 47) (fCons (fVar 0) (fCons (fC (.int 2)) (fNil)))) (fCons (fVar 4) (fNil))))))) (fNil)))))) (fVar 2))))
noncomputable def b_50 (T : Nat → Fn) : FS := fSeq (fPar 2 3 (fCons (fCall bAbs (fCons (fVar 0) (fNil))) (fCons (fVar 1) (fNil)))) (fSeq (fWh 1000000000 (fTest (fOp oGt (fVar 3) (fC (.int 0)))) (fPar 2 3 (fCons (fVar 3) (fCons (fOp (iOp okMod (· % ·)) (fVar 2) (fVar 3)) (fNil))))) (fRet (fMk mkTup (fCons (fOp (iOp okDiv (· / ·)) (fVar 0) (fVar 2)) (fCons (fOp (iOp okDiv (· / ·)) (fVar 1) (fVar 2)) (fNil))))))
noncomputable def b_51 (T : Nat → Fn) : FS := fRet (fCall (T 50) (fCons (fOp oAdd (fOp oMul (fOp oIx (fVar 0) (fC (.int 0))) (fOp oIx (fVar 1) (fC (.int 1)))) (fOp oMul (fOp oIx (fVar 1) (fC (.int 0))) (fOp oIx (fVar 0) (fC (.int 1))))) (fCons (fOp oMul (fOp oMul (fC (.int 2)) (fOp oIx (fVar 0) (fC (.int 1)))) (fOp oIx (fVar 1) (fC (.int 1)))) (fNil))))
noncomputable def b_52 (T : Nat → Fn) : FS := fSeq (fAsg (fOp oIx (fVar 0) (fC (.int 0))) (gN 2)) (fSeq (fFor (iSeq (fVar 0)) (gN 3) (fIf (fTest (fOp oLt (fOp oMul (fVar 1) (fOp (iOp okAny (· - ·)) (fOp oMul (fOp oIx (fVar 3) (fC (.int 0))) (fOp oIx (fVar 2) (fC (.int 1)))) (fOp oMul (fOp oIx (fVar 2) (fC (.int 0))) (fOp oIx (fVar 3) (fC (.int 1)))))) (fC (.int 0)))) (fAsg (fVar 3) (gN 2)) (fSkip))) (fRet (fVar 2)))
noncomputable def b_53 (T : Nat → Fn) : FS := fSeq (fAsg (fMk mkRef (fCons (fMk mkTup (fCons (fVar 1) (fCons (fC (.int 1)) (fNil)))) (fNil))) (gN 2)) (fSeq (fFor (iR1 (fCons (fCall (T 47) (fCons (fVar 0) (fCons (fC (.int 6)) (fNil)))) (fNil))) (gN 3) (fSeq (fAsg (fCall (T 48) (fCons (fVar 0) (fCons (fMk mkLst (fCons (fC (.int 1)) (fCons (fC (.int 2)) (fCons (fC (.int 4)) (fCons (fC (.int 64)) (fNil)))))) (fNil)))) (gN 4)) (fDrop (fApp (fVar 2) (fCall (T 50) (fCons (fOp (iOp okAny (· - ·)) (fOp oAdd (fOp oMul (fVar 1) (fVar 4)) (fCall (T 47) (fCons (fVar 0) (fCons (fC (.int 7)) (fNil))))) (fC (.int 3))) (fCons (fVar 4) (fNil)))))))) (fRet (fCall bTup (fCons (fVar 2) (fNil)))))
noncomputable def b_54 (T : Nat → Fn) : FS := fSeq (fPar 4 5 (fCons (fMk mkRef (fCons (fMk mkTup (fCons (fOp oIx (fVar 2) (fVar 1)) (fCons (fC (.int 1)) (fNil)))) (fNil))) (fCons (fMk mkRef (fNil)) (fNil)))) (fSeq (fFor (iR1 (fCons (fVar 3) (fNil))) (gN 6) (fSeq (fIf (fTest (fOp oEq (fCall (T 47) (fCons (fVar 0) (fCons (fC (.int 16)) (fNil)))) (fC (.int 0)))) (fRet (fMk mkTup (fCons (fCall bTup (fCons (fVar 5) (fNil))) (fCons (fC .non) (fNil))))) (fSkip)) (fSeq (fDrop (fApp (fVar 5) (fC .non))) (fSeq (fIf (fTest (fOp oEq (fCall (T 47) (fCons (fVar 0) (fCons (fC (.int 16)) (fNil)))) (fC (.int 0)))) (fRet (fMk mkTup (fCons (fCall bTup (fCons (fVar 5) (fNil))) (fCons (fC .non) (fNil))))) (fSkip)) (fSeq (fAsg (fMk mkRef (fNil)) (gN 7)) (fSeq (fFor (iR1 (fCons (fCall bLen (fCons (fVar 2) (fNil))) (fNil))) (gN 8) (fSeq (fAsg (fCall (T 53) (fCons (fVar 0) (fCons (fCall (T 48) (fCons (fVar 0) (fCons (fVar 2) (fNil)))) (fNil)))) (gN 9)) (fDrop (fApp (fVar 7) (fIfx (fTest (fOp oEq (fCall (T 47) (fCons (fVar 0) (fCons (fC (.int 3)) (fNil)))) (fC (.int 0)))) (fC (.int 0)) (fVar 9)))))) (fSeq (fAsg (fCall bTup (fCons (fVar 4) (fNil))) (gIx (fVar 7) (fVar 1))) (fSeq (fDrop (fApp (fVar 5) (fCall bTup (fCons (fVar 7) (fNil))))) (fSeq (fAsg (fCompR cLst (iRef (fVar 7)) [none, some 6] (gN 0) (fAnd (fTest (fOp oNeD (fVar 0) (fC (.int 0)))) (fTest (fOp oGt (fCall bLen (fCons (fVar 0) (fNil))) (fVar 1)))) (fOp oIx (fVar 0) (fVar 1))) (gN 10)) (fDrop (fApp (fVar 4) (fCall (T 51) (fCons (fCall (T 52) (fCons (fVar 10) (fCons (fC (.int 1)) (fNil)))) (fCons (fCall (T 52) (fCons (fVar 10) (fCons (fUn uNeg (fC (.int 1))) (fNil)))) (fNil))))))))))))))) (fRet (fMk mkTup (fCons (fCall bTup (fCons (fVar 5) (fNil))) (fCons (fOp oIx (fVar 4) (fUn uNeg (fC (.int 1)))) (fNil))))))
noncomputable def b_55 (T : Nat → Fn) : FS := fSeq (fAsg (fCall bAbs (fCons (fOp (iOp okAny (· - ·)) (fOp oMul (fOp oIx (fVar 0) (fC (.int 0))) (fOp oIx (fVar 1) (fC (.int 1)))) (fOp oMul (fOp oIx (fVar 1) (fC (.int 0))) (fOp oIx (fVar 0) (fC (.int 1))))) (fNil))) (gN 4)) (fSeq (fAsg (fOp oMul (fOp oMul (fVar 2) (fOp oIx (fVar 0) (fC (.int 1)))) (fOp oIx (fVar 1) (fC (.int 1)))) (gN 5)) (fSeq (fFor (iR1 (fCons (fVar 3) (fNil))) (gN 6) (fAsg (fOp oMul (fC (.int 2)) (fVar 4)) (gN 4))) (fRet (fOp oLe (fVar 4) (fVar 5)))))
noncomputable def b_56 (T : Nat → Fn) : FS := fSeq (fAsg (fMk mkTup (fCons (fCall bMinL (fCons (fVar 1) (fNil))) (fCons (fCall bMaxL (fCons (fVar 1) (fNil))) (fNil)))) (gT 2 (gConss (gN 3) (gConss (gN 4) (gNils))))) (fSeq (fFor (iSeq (fVar 0)) (gN 5) (fSeq (fIf (fNot (fTest (fChain oLe oLe (fOp oMul (fVar 3) (fOp oIx (fVar 5) (fC (.int 1)))) (fOp oIx (fVar 5) (fC (.int 0))) (fOp oMul (fVar 4) (fOp oIx (fVar 5) (fC (.int 1))))))) (fRet (fC (.bl false))) (fSkip)) (fIf (fNot (fTru (fCall bAll (fCons (fComp cLst (iSeq (fVar 0)) [none, some 5, some 4, some 3, some 2] (gN 0) (fTrue) (fCall (T 55) (fCons (fVar 1) (fCons (fVar 0) (fCons (fOp (iOp okAny (· - ·)) (fVar 2) (fVar 3)) (fCons (fVar 4) (fNil))))))) (fNil))))) (fRet (fC (.bl false))) (fSkip)))) (fRet (fC (.bl true))))
noncomputable def b_57 (T : Nat → Fn) : FS := fSeq (fAsg (fOp oAdd (fC (.int 1)) (fCall (T 47) (fCons (fVar 0) (fCons (fC (.int 5)) (fNil))))) (gN 1)) (fSeq (fAsg (fCall (T 49) (fCons (fVar 0) (fCons (fVar 1) (fNil)))) (gN 2)) (fSeq (fAsg (fOp oAdd (fC (.int 1)) (fCall (T 47) (fCons (fVar 0) (fCons (fC (.int 6)) (fNil))))) (gN 3)) (fSeq (fAsg (fComp cLst (iR1 (fCons (fVar 1) (fNil))) [none, some 0] (gN 0) (fTrue) (fCall (T 48) (fCons (fVar 1) (fCons (fMk mkLst (fCons (fUn uNeg (fC (.int 20))) (fCons (fUn uNeg (fC (.int 3))) (fCons (fC (.int 0)) (fCons (fC (.int 1)) (fCons (fC (.int 2)) (fCons (fC (.int 7)) (fCons (fC (.int 40)) (fNil))))))))) (fNil))))) (gN 4)) (fSeq (fAsg (fCall bTup (fCons (fComp cLst (iSeq (fVar 4)) [none, some 3] (gN 0) (fTrue) (fMk mkTup (fCons (fC (.str "closer")) (fCons (fVar 0) (fCons (fVar 1) (fNil)))))) (fNil))) (gN 5)) (fSeq (fAsg (fOp oIx (fCall (T 44) (fCons (fVar 2) (fCons (fVar 5) (fNil)))) (fC (.int 0))) (gN 6)) (fSeq (fFor (iR1 (fCons (fC (.int 3)) (fNil))) (gN 7) (fSeq (fAsg (fComp cLst (iR1 (fCons (fVar 1) (fNil))) [none, some 0, some 4, some 3] (gN 0) (fTrue) (fCall (T 54) (fCons (fVar 1) (fCons (fVar 0) (fCons (fVar 2) (fCons (fVar 3) (fNil))))))) (gN 8)) (fSeq (fAsg (fMk mkTup (fCons (fVar 6) (fCons (fCall bTup (fCons (fComp cLst (iSeq (fVar 8)) [none, none] (gT 2 (gConss (gN 0) (gConss (gN 1) (gNils)))) (fTrue) (fMk mkTup (fCons (fVar 0) (fCons (fMk mkTup (fNil)) (fCons (fMk mkTup (fNil)) (fNil)))))) (fNil))) (fNil)))) (gN 9)) (fSeq (fAsg (fComp cLst (iSeq (fVar 8)) [none, none] (gT 2 (gConss (gN 0) (gConss (gN 1) (gNils)))) (fTest (fOp oIsnt (fVar 1) (fC .non))) (fVar 1)) (gN 10)) (fIf (fNot (fTru (fCall (T 58) (fCons (fCall (T 29) (fCons (fVar 2) (fCons (fVar 5) (fCons (fVar 9) (fNil))))) (fCons (fCall (T 56) (fCons (fVar 10) (fCons (fVar 4) (fCons (fVar 3) (fNil))))) (fNil)))))) (fRet (fC (.bl false))) (fSkip)))))) (fSeq (fAsg (fMk mkLst (fCons (fCall bTup (fCons (fOp oMul2 (fMk mkLst (fCons (fMk mkTup (fCons (fC (.str "sums")) (fCons (fMk mkTup (fCons (fC (.int 1)) (fCons (fC .non) (fNil)))) (fNil)))) (fNil))) (fVar 1)) (fNil))) (fCons (fCall bTup (fCons (fOp oMul2 (fMk mkLst (fCons (fMk mkTup (fCons (fC (.str "deeds")) (fCons (fMk mkTup (fCons (fMk mkTup (fCons (fC (.str "look")) (fNil))) (fNil))) (fNil)))) (fNil))) (fVar 1)) (fNil))) (fNil)))) (gN 11)) (fSeq (fAsg (fCall bTup (fCons (fComp cLst (iR1 (fCons (fVar 1) (fNil))) [none, some 0] (gN 0) (fTrue) (fCall (T 47) (fCons (fVar 1) (fCons (fC (.int 3)) (fNil))))) (fNil))) (gN 12)) (fSeq (fFor (iZipL (fVar 11) (fMk mkLst (fCons (fMk mkTup (fCons (fC .non) (fCons (fVar 12) (fNil)))) (fCons (fMk mkTup (fCons (fVar 12) (fNil))) (fNil))))) (gT 2 (gConss (gN 5) (gConss (gN 13) (gNils)))) (fIf (fTest (fOp oIsnt (fCall (T 29) (fCons (fVar 2) (fCons (fVar 5) (fCons (fMk mkTup (fCons (fVar 6) (fCons (fOp oMul (fMk mkTup (fCons (fMk mkTup (fCons (fVar 13) (fCons (fMk mkTup (fNil)) (fCons (fMk mkTup (fNil)) (fNil))))) (fNil))) (fVar 1)) (fNil)))) (fNil))))) (fC (.bl true)))) (fRet (fC (.bl false))) (fSkip))) (fRet (fC (.bl true))))))))))))
noncomputable def b_58 (T : Nat → Fn) : FS := fRet (fAndV (fIsi .bool (fVar 0)) (fOp oEq (fVar 0) (fVar 1)))
noncomputable def b_59 (T : Nat → Fn) : FS := fRet (fCall bAll (fCons (fComp cLst (iR1 (fCons (fCall bMax (fCons (fC (.int 1)) (fCons (fCall bMin (fCons (fCall bLen (fCons (fVar 0) (fNil))) (fCons (fC (.int 4)) (fNil)))) (fNil)))) (fNil))) [none, some 0] (gN 0) (fTrue) (fCall (T 57) (fCons (fCall (T 46) (fCons (fVar 1) (fCons (fVar 0) (fNil)))) (fNil)))) (fNil)))
noncomputable def tab : Nat → Nat → Fn
  | 0, _ => fun _ _ => none
  | k + 1, 1 => pureFn (runFn false 6 4 (b_1 (tab k)))
  | k + 1, 2 => pureFn (runFn false 4 3 (b_2 (tab k)))
  | k + 1, 3 => pureFn (runFn false 4 1 (b_3 (tab k)))
  | k + 1, 4 => pureFn (runFn false 2 2 (b_4 (tab k)))
  | k + 1, 5 => pureFn (runFn false 2 2 (b_5 (tab k)))
  | k + 1, 6 => pureFn (runFn false 3 2 (b_6 (tab k)))
  | k + 1, 7 => pureFn (runFn false 3 2 (b_7 (tab k)))
  | k + 1, 10 => (runFn false 2 2 (b_10 (tab k)))
  | k + 1, 11 => pureFn (runFn false 1 1 (b_11 (tab k)))
  | k + 1, 20 => (runFn false 4 3 (b_20 (tab k)))
  | k + 1, 21 => (runFn false 3 3 (b_21 (tab k)))
  | k + 1, 23 => (runFn false 3 3 (b_23 (tab k)))
  | k + 1, 24 => (runFn false 4 3 (b_24 (tab k)))
  | k + 1, 25 => (runFn false 2 2 (b_25 (tab k)))
  | k + 1, 27 => (runFn false 3 2 (b_27 (tab k)))
  | k + 1, 29 => (runFn false 5 3 (b_29 (tab k)))
  | k + 1, 32 => (runFn false 6 3 (b_32 (tab k)))
  | k + 1, 33 => (runFn false 5 4 (b_33 (tab k)))
  | k + 1, 35 => pureFn (runFn false 1 1 (b_35 (tab k)))
  | k + 1, 36 => (runFn false 3 1 (b_36 (tab k)))
  | k + 1, 38 => (runFn false 3 1 (b_38 (tab k)))
  | k + 1, 39 => (runFn false 4 2 (b_39 (tab k)))
  | k + 1, 40 => (runFn false 3 3 (b_40 (tab k)))
  | k + 1, 41 => (runFn false 4 2 (b_41 (tab k)))
  | k + 1, 42 => (runFn false 1 1 (b_42 (tab k)))
  | k + 1, 44 => (runFn false 2 2 (b_44 (tab k)))
  | k + 1, 46 => (runFn true 3 2 (b_46 (tab k)))
  | k + 1, 47 => (runFn false 6 2 (b_47 (tab k)))
  | k + 1, 48 => (runFn false 2 2 (b_48 (tab k)))
  | k + 1, 49 => (runFn false 5 2 (b_49 (tab k)))
  | k + 1, 50 => pureFn (runFn false 4 2 (b_50 (tab k)))
  | k + 1, 51 => (runFn false 2 2 (b_51 (tab k)))
  | k + 1, 52 => (runFn false 4 2 (b_52 (tab k)))
  | k + 1, 53 => (runFn false 5 2 (b_53 (tab k)))
  | k + 1, 54 => (runFn false 11 4 (b_54 (tab k)))
  | k + 1, 55 => (runFn false 7 4 (b_55 (tab k)))
  | k + 1, 56 => (runFn false 6 3 (b_56 (tab k)))
  | k + 1, 57 => (runFn false 14 1 (b_57 (tab k)))
  | k + 1, 58 => (runFn false 2 2 (b_58 (tab k)))
  | k + 1, 59 => (runFn false 1 1 (b_59 (tab k)))
  | _ + 1, _ => fun _ _ => none
theorem tab_len_1 {k : Nat} : ∀ ds g r, tab k 1 ds g = some r → ds.length = 4 := fun ds g r h => by
  cases k with
  | zero => cases h
  | succ k => exact pureFn_len runFn_len ds g r h
theorem tab_len_2 {k : Nat} : ∀ ds g r, tab k 2 ds g = some r → ds.length = 3 := fun ds g r h => by
  cases k with
  | zero => cases h
  | succ k => exact pureFn_len runFn_len ds g r h
theorem tab_len_3 {k : Nat} : ∀ ds g r, tab k 3 ds g = some r → ds.length = 1 := fun ds g r h => by
  cases k with
  | zero => cases h
  | succ k => exact pureFn_len runFn_len ds g r h
theorem tab_len_4 {k : Nat} : ∀ ds g r, tab k 4 ds g = some r → ds.length = 2 := fun ds g r h => by
  cases k with
  | zero => cases h
  | succ k => exact pureFn_len runFn_len ds g r h
theorem tab_len_5 {k : Nat} : ∀ ds g r, tab k 5 ds g = some r → ds.length = 2 := fun ds g r h => by
  cases k with
  | zero => cases h
  | succ k => exact pureFn_len runFn_len ds g r h
theorem tab_len_6 {k : Nat} : ∀ ds g r, tab k 6 ds g = some r → ds.length = 2 := fun ds g r h => by
  cases k with
  | zero => cases h
  | succ k => exact pureFn_len runFn_len ds g r h
theorem tab_len_7 {k : Nat} : ∀ ds g r, tab k 7 ds g = some r → ds.length = 2 := fun ds g r h => by
  cases k with
  | zero => cases h
  | succ k => exact pureFn_len runFn_len ds g r h
theorem tab_len_10 {k : Nat} : ∀ ds g r, tab k 10 ds g = some r → ds.length = 2 := fun ds g r h => by
  cases k with
  | zero => cases h
  | succ k => exact runFn_len ds g r h
theorem tab_len_11 {k : Nat} : ∀ ds g r, tab k 11 ds g = some r → ds.length = 1 := fun ds g r h => by
  cases k with
  | zero => cases h
  | succ k => exact pureFn_len runFn_len ds g r h
theorem tab_len_20 {k : Nat} : ∀ ds g r, tab k 20 ds g = some r → ds.length = 3 := fun ds g r h => by
  cases k with
  | zero => cases h
  | succ k => exact runFn_len ds g r h
theorem tab_len_21 {k : Nat} : ∀ ds g r, tab k 21 ds g = some r → ds.length = 3 := fun ds g r h => by
  cases k with
  | zero => cases h
  | succ k => exact runFn_len ds g r h
theorem tab_len_23 {k : Nat} : ∀ ds g r, tab k 23 ds g = some r → ds.length = 3 := fun ds g r h => by
  cases k with
  | zero => cases h
  | succ k => exact runFn_len ds g r h
theorem tab_len_24 {k : Nat} : ∀ ds g r, tab k 24 ds g = some r → ds.length = 3 := fun ds g r h => by
  cases k with
  | zero => cases h
  | succ k => exact runFn_len ds g r h
theorem tab_len_25 {k : Nat} : ∀ ds g r, tab k 25 ds g = some r → ds.length = 2 := fun ds g r h => by
  cases k with
  | zero => cases h
  | succ k => exact runFn_len ds g r h
theorem tab_len_27 {k : Nat} : ∀ ds g r, tab k 27 ds g = some r → ds.length = 2 := fun ds g r h => by
  cases k with
  | zero => cases h
  | succ k => exact runFn_len ds g r h
theorem tab_len_29 {k : Nat} : ∀ ds g r, tab k 29 ds g = some r → ds.length = 3 := fun ds g r h => by
  cases k with
  | zero => cases h
  | succ k => exact runFn_len ds g r h
theorem tab_len_32 {k : Nat} : ∀ ds g r, tab k 32 ds g = some r → ds.length = 3 := fun ds g r h => by
  cases k with
  | zero => cases h
  | succ k => exact runFn_len ds g r h
theorem tab_len_33 {k : Nat} : ∀ ds g r, tab k 33 ds g = some r → ds.length = 4 := fun ds g r h => by
  cases k with
  | zero => cases h
  | succ k => exact runFn_len ds g r h
theorem tab_len_35 {k : Nat} : ∀ ds g r, tab k 35 ds g = some r → ds.length = 1 := fun ds g r h => by
  cases k with
  | zero => cases h
  | succ k => exact pureFn_len runFn_len ds g r h
theorem tab_len_36 {k : Nat} : ∀ ds g r, tab k 36 ds g = some r → ds.length = 1 := fun ds g r h => by
  cases k with
  | zero => cases h
  | succ k => exact runFn_len ds g r h
theorem tab_len_38 {k : Nat} : ∀ ds g r, tab k 38 ds g = some r → ds.length = 1 := fun ds g r h => by
  cases k with
  | zero => cases h
  | succ k => exact runFn_len ds g r h
theorem tab_len_39 {k : Nat} : ∀ ds g r, tab k 39 ds g = some r → ds.length = 2 := fun ds g r h => by
  cases k with
  | zero => cases h
  | succ k => exact runFn_len ds g r h
theorem tab_len_40 {k : Nat} : ∀ ds g r, tab k 40 ds g = some r → ds.length = 3 := fun ds g r h => by
  cases k with
  | zero => cases h
  | succ k => exact runFn_len ds g r h
theorem tab_len_41 {k : Nat} : ∀ ds g r, tab k 41 ds g = some r → ds.length = 2 := fun ds g r h => by
  cases k with
  | zero => cases h
  | succ k => exact runFn_len ds g r h
theorem tab_len_42 {k : Nat} : ∀ ds g r, tab k 42 ds g = some r → ds.length = 1 := fun ds g r h => by
  cases k with
  | zero => cases h
  | succ k => exact runFn_len ds g r h
theorem tab_len_44 {k : Nat} : ∀ ds g r, tab k 44 ds g = some r → ds.length = 2 := fun ds g r h => by
  cases k with
  | zero => cases h
  | succ k => exact runFn_len ds g r h
theorem tab_len_46 {k : Nat} : ∀ ds g r, tab k 46 ds g = some r → ds.length = 2 := fun ds g r h => by
  cases k with
  | zero => cases h
  | succ k => exact runFn_len ds g r h
theorem tab_len_47 {k : Nat} : ∀ ds g r, tab k 47 ds g = some r → ds.length = 2 := fun ds g r h => by
  cases k with
  | zero => cases h
  | succ k => exact runFn_len ds g r h
theorem tab_len_48 {k : Nat} : ∀ ds g r, tab k 48 ds g = some r → ds.length = 2 := fun ds g r h => by
  cases k with
  | zero => cases h
  | succ k => exact runFn_len ds g r h
theorem tab_len_49 {k : Nat} : ∀ ds g r, tab k 49 ds g = some r → ds.length = 2 := fun ds g r h => by
  cases k with
  | zero => cases h
  | succ k => exact runFn_len ds g r h
theorem tab_len_50 {k : Nat} : ∀ ds g r, tab k 50 ds g = some r → ds.length = 2 := fun ds g r h => by
  cases k with
  | zero => cases h
  | succ k => exact pureFn_len runFn_len ds g r h
theorem tab_len_51 {k : Nat} : ∀ ds g r, tab k 51 ds g = some r → ds.length = 2 := fun ds g r h => by
  cases k with
  | zero => cases h
  | succ k => exact runFn_len ds g r h
theorem tab_len_52 {k : Nat} : ∀ ds g r, tab k 52 ds g = some r → ds.length = 2 := fun ds g r h => by
  cases k with
  | zero => cases h
  | succ k => exact runFn_len ds g r h
theorem tab_len_53 {k : Nat} : ∀ ds g r, tab k 53 ds g = some r → ds.length = 2 := fun ds g r h => by
  cases k with
  | zero => cases h
  | succ k => exact runFn_len ds g r h
theorem tab_len_54 {k : Nat} : ∀ ds g r, tab k 54 ds g = some r → ds.length = 4 := fun ds g r h => by
  cases k with
  | zero => cases h
  | succ k => exact runFn_len ds g r h
theorem tab_len_55 {k : Nat} : ∀ ds g r, tab k 55 ds g = some r → ds.length = 4 := fun ds g r h => by
  cases k with
  | zero => cases h
  | succ k => exact runFn_len ds g r h
theorem tab_len_56 {k : Nat} : ∀ ds g r, tab k 56 ds g = some r → ds.length = 3 := fun ds g r h => by
  cases k with
  | zero => cases h
  | succ k => exact runFn_len ds g r h
theorem tab_len_57 {k : Nat} : ∀ ds g r, tab k 57 ds g = some r → ds.length = 1 := fun ds g r h => by
  cases k with
  | zero => cases h
  | succ k => exact runFn_len ds g r h
theorem tab_len_58 {k : Nat} : ∀ ds g r, tab k 58 ds g = some r → ds.length = 2 := fun ds g r h => by
  cases k with
  | zero => cases h
  | succ k => exact runFn_len ds g r h
end K61
namespace K61
open PySem PySem.Spec PyProof.Rows L2 L3
noncomputable def top (i : Nat) : Stmt := PySem.Challenge.pw_wholeglance_k61_closer_fit.main.body.getD i (.Pass ⟨0, 0, 0, 0⟩)
noncomputable abbrev N_1 : List Str := ["hand", "number", "rounds", "told", "own", "state"]
noncomputable abbrev P_1 : List Str := ["hand", "number", "rounds", "told"]
theorem nd_1 : N_1.Nodup := by decide +kernel
theorem sc_1 : FnScope N_1 P_1 (defScope (top 1)) := ⟨rfl, rfl, rfl, nd_1, rfl, by decide +kernel, by decide +kernel⟩
noncomputable abbrev N_2 : List Str := ["hand", "count", "state", "there"]
noncomputable abbrev P_2 : List Str := ["hand", "count", "state"]
theorem nd_2 : N_2.Nodup := by decide +kernel
noncomputable abbrev N_c0 : List Str := ["place", "value", "hand"]
theorem nd_c0 : N_c0.Nodup := by decide +kernel
noncomputable abbrev N_c1 : List Str := ["value", "count"]
theorem nd_c1 : N_c1.Nodup := by decide +kernel
theorem sc_2 : FnScope N_2 P_2 (defScope (top 2)) := ⟨rfl, rfl, rfl, nd_2, rfl, by decide +kernel, by decide +kernel⟩
noncomputable abbrev N_3 : List Str := ["fractions", "least", "greatest", "fraction"]
noncomputable abbrev P_3 : List Str := ["fractions"]
theorem nd_3 : N_3.Nodup := by decide +kernel
theorem sc_3 : FnScope N_3 P_3 (defScope (top 3)) := ⟨rfl, rfl, rfl, nd_3, rfl, by decide +kernel, by decide +kernel⟩
noncomputable abbrev N_4 : List Str := ["one", "other"]
noncomputable abbrev P_4 : List Str := ["one", "other"]
theorem nd_4 : N_4.Nodup := by decide +kernel
theorem sc_4 : FnScope N_4 P_4 (defScope (top 4)) := ⟨rfl, rfl, rfl, nd_4, rfl, by decide +kernel, by decide +kernel⟩
noncomputable abbrev N_5 : List Str := ["one", "other"]
noncomputable abbrev P_5 : List Str := ["one", "other"]
theorem nd_5 : N_5.Nodup := by decide +kernel
theorem sc_5 : FnScope N_5 P_5 (defScope (top 5)) := ⟨rfl, rfl, rfl, nd_5, rfl, by decide +kernel, by decide +kernel⟩
noncomputable abbrev N_6 : List Str := ["top", "bottom", "divisor"]
noncomputable abbrev P_6 : List Str := ["top", "bottom"]
theorem nd_6 : N_6.Nodup := by decide +kernel
theorem sc_6 : FnScope N_6 P_6 (defScope (top 6)) := ⟨rfl, rfl, rfl, nd_6, rfl, by decide +kernel, by decide +kernel⟩
noncomputable abbrev N_7 : List Str := ["one", "other", "rest"]
noncomputable abbrev P_7 : List Str := ["one", "other"]
theorem nd_7 : N_7.Nodup := by decide +kernel
theorem sc_7 : FnScope N_7 P_7 (defScope (top 7)) := ⟨rfl, rfl, rfl, nd_7, rfl, by decide +kernel, by decide +kernel⟩
noncomputable abbrev N_10 : List Str := ["manner", "name"]
noncomputable abbrev P_10 : List Str := ["manner", "name"]
theorem nd_10 : N_10.Nodup := by decide +kernel
theorem sc_10 : FnScope N_10 P_10 (defScope (top 10)) := ⟨rfl, rfl, rfl, nd_10, rfl, by decide +kernel, by decide +kernel⟩
noncomputable abbrev N_11 : List Str := ["manner"]
noncomputable abbrev P_11 : List Str := ["manner"]
theorem nd_11 : N_11.Nodup := by decide +kernel
theorem sc_11 : FnScope N_11 P_11 (defScope (top 11)) := ⟨rfl, rfl, rfl, nd_11, rfl, by decide +kernel, by decide +kernel⟩
noncomputable abbrev N_20 : List Str := ["hand", "items", "told", "done"]
noncomputable abbrev P_20 : List Str := ["hand", "items", "told"]
theorem nd_20 : N_20.Nodup := by decide +kernel
noncomputable abbrev N_c2 : List Str := ["place", "item", "told"]
theorem nd_c2 : N_c2.Nodup := by decide +kernel
theorem sc_20 : FnScope N_20 P_20 (defScope (top 20)) := ⟨rfl, rfl, rfl, nd_20, rfl, by decide +kernel, by decide +kernel⟩
noncomputable abbrev N_21 : List Str := ["hand", "items", "done"]
noncomputable abbrev P_21 : List Str := ["hand", "items", "done"]
theorem nd_21 : N_21.Nodup := by decide +kernel
noncomputable abbrev N_c3 : List Str := ["item"]
theorem nd_c3 : N_c3.Nodup := by decide +kernel
theorem sc_21 : FnScope N_21 P_21 (defScope (top 21)) := ⟨rfl, rfl, rfl, nd_21, rfl, by decide +kernel, by decide +kernel⟩
noncomputable abbrev N_23 : List Str := ["hand", "job", "told"]
noncomputable abbrev P_23 : List Str := ["hand", "job", "told"]
theorem nd_23 : N_23.Nodup := by decide +kernel
theorem sc_23 : FnScope N_23 P_23 (defScope (top 23)) := ⟨rfl, rfl, rfl, nd_23, rfl, by decide +kernel, by decide +kernel⟩
noncomputable abbrev N_24 : List Str := ["hand", "job", "told", "word"]
noncomputable abbrev P_24 : List Str := ["hand", "job", "told"]
theorem nd_24 : N_24.Nodup := by decide +kernel
theorem sc_24 : FnScope N_24 P_24 (defScope (top 24)) := ⟨rfl, rfl, rfl, nd_24, rfl, by decide +kernel, by decide +kernel⟩
noncomputable abbrev N_25 : List Str := ["row", "told"]
noncomputable abbrev P_25 : List Str := ["row", "told"]
theorem nd_25 : N_25.Nodup := by decide +kernel
theorem sc_25 : FnScope N_25 P_25 (defScope (top 25)) := ⟨rfl, rfl, rfl, nd_25, rfl, by decide +kernel, by decide +kernel⟩
noncomputable abbrev N_27 : List Str := ["jobs", "room", "rows"]
noncomputable abbrev P_27 : List Str := ["jobs", "room"]
theorem nd_27 : N_27.Nodup := by decide +kernel
noncomputable abbrev N_c4 : List Str := ["hand", "job", "rows"]
theorem nd_c4 : N_c4.Nodup := by decide +kernel
theorem sc_27 : FnScope N_27 P_27 (defScope (top 27)) := ⟨rfl, rfl, rfl, nd_27, rfl, by decide +kernel, by decide +kernel⟩
noncomputable abbrev N_29 : List Str := ["manner", "jobs", "room", "given", "word"]
noncomputable abbrev P_29 : List Str := ["manner", "jobs", "room"]
theorem nd_29 : N_29.Nodup := by decide +kernel
noncomputable abbrev N_c5 : List Str := ["answer"]
theorem nd_c5 : N_c5.Nodup := by decide +kernel
noncomputable abbrev N_c8 : List Str := ["job"]
theorem nd_c8 : N_c8.Nodup := by decide +kernel
theorem sc_29 : FnScope N_29 P_29 (defScope (top 29)) := ⟨rfl, rfl, rfl, nd_29, rfl, by decide +kernel, by decide +kernel⟩
noncomputable abbrev N_32 : List Str := ["fractions", "numbers", "rounds", "least", "greatest", "fraction"]
noncomputable abbrev P_32 : List Str := ["fractions", "numbers", "rounds"]
theorem nd_32 : N_32.Nodup := by decide +kernel
noncomputable abbrev N_c9 : List Str := ["top", "bottom", "least", "greatest"]
theorem nd_c9 : N_c9.Nodup := by decide +kernel
noncomputable abbrev N_c10 : List Str := ["other", "fraction", "greatest", "least", "rounds"]
theorem nd_c10 : N_c10.Nodup := by decide +kernel
theorem sc_32 : FnScope N_32 P_32 (defScope (top 32)) := ⟨rfl, rfl, rfl, nd_32, rfl, by decide +kernel, by decide +kernel⟩
noncomputable abbrev N_33 : List Str := ["one", "other", "breadth", "rounds", "apart"]
noncomputable abbrev P_33 : List Str := ["one", "other", "breadth", "rounds"]
theorem nd_33 : N_33.Nodup := by decide +kernel
theorem sc_33 : FnScope N_33 P_33 (defScope (top 33)) := ⟨rfl, rfl, rfl, nd_33, rfl, by decide +kernel, by decide +kernel⟩
noncomputable abbrev N_35 : List Str := ["manner"]
noncomputable abbrev P_35 : List Str := ["manner"]
theorem nd_35 : N_35.Nodup := by decide +kernel
theorem sc_35 : FnScope N_35 P_35 (defScope (top 35)) := ⟨rfl, rfl, rfl, nd_35, rfl, by decide +kernel, by decide +kernel⟩
noncomputable abbrev N_36 : List Str := ["manner", "word", "boxes"]
noncomputable abbrev P_36 : List Str := ["manner"]
theorem nd_36 : N_36.Nodup := by decide +kernel
theorem sc_36 : FnScope N_36 P_36 (defScope (top 36)) := ⟨rfl, rfl, rfl, nd_36, rfl, by decide +kernel, by decide +kernel⟩
noncomputable abbrev N_38 : List Str := ["manner", "word", "nothing_seen"]
noncomputable abbrev P_38 : List Str := ["manner"]
theorem nd_38 : N_38.Nodup := by decide +kernel
theorem sc_38 : FnScope N_38 P_38 (defScope (top 38)) := ⟨rfl, rfl, rfl, nd_38, rfl, by decide +kernel, by decide +kernel⟩
noncomputable abbrev N_39 : List Str := ["manner", "words", "boxes", "word"]
noncomputable abbrev P_39 : List Str := ["manner", "words"]
theorem nd_39 : N_39.Nodup := by decide +kernel
theorem sc_39 : FnScope N_39 P_39 (defScope (top 39)) := ⟨rfl, rfl, rfl, nd_39, rfl, by decide +kernel, by decide +kernel⟩
noncomputable abbrev N_40 : List Str := ["word", "count", "content"]
noncomputable abbrev P_40 : List Str := ["word", "count", "content"]
theorem nd_40 : N_40.Nodup := by decide +kernel
noncomputable abbrev N_c11 : List Str := ["number", "word", "content"]
theorem nd_c11 : N_c11.Nodup := by decide +kernel
theorem sc_40 : FnScope N_40 P_40 (defScope (top 40)) := ⟨rfl, rfl, rfl, nd_40, rfl, by decide +kernel, by decide +kernel⟩
noncomputable abbrev N_41 : List Str := ["word", "hands", "boxes", "one"]
noncomputable abbrev P_41 : List Str := ["word", "hands"]
theorem nd_41 : N_41.Nodup := by decide +kernel
noncomputable abbrev N_c12 : List Str := ["other", "one", "word"]
theorem nd_c12 : N_c12.Nodup := by decide +kernel
theorem sc_41 : FnScope N_41 P_41 (defScope (top 41)) := ⟨rfl, rfl, rfl, nd_41, rfl, by decide +kernel, by decide +kernel⟩
noncomputable abbrev N_42 : List Str := ["count"]
noncomputable abbrev P_42 : List Str := ["count"]
theorem nd_42 : N_42.Nodup := by decide +kernel
theorem sc_42 : FnScope N_42 P_42 (defScope (top 42)) := ⟨rfl, rfl, rfl, nd_42, rfl, by decide +kernel, by decide +kernel⟩
noncomputable abbrev N_44 : List Str := ["manner", "jobs"]
noncomputable abbrev P_44 : List Str := ["manner", "jobs"]
theorem nd_44 : N_44.Nodup := by decide +kernel
theorem sc_44 : FnScope N_44 P_44 (defScope (top 44)) := ⟨rfl, rfl, rfl, nd_44, rfl, by decide +kernel, by decide +kernel⟩
noncomputable abbrev N_46 : List Str := ["_law_script", "_law_k", "_law_cell"]
noncomputable abbrev P_46 : List Str := ["_law_script", "_law_k"]
theorem nd_46 : N_46.Nodup := by decide +kernel
theorem sc_46 : FnScope N_46 P_46 (defScope (top 46)) := ⟨rfl, rfl, rfl, nd_46, rfl, by decide +kernel, by decide +kernel⟩
noncomputable abbrev N_47 : List Str := ["_law_hand_here", "_law_many", "_law_digit", "_law_turn", "_law_mixed", "_law_odd"]
noncomputable abbrev P_47 : List Str := ["_law_hand_here", "_law_many"]
theorem nd_47 : N_47.Nodup := by decide +kernel
theorem sc_47 : FnScope N_47 P_47 (defScope (top 47)) := ⟨rfl, rfl, rfl, nd_47, rfl, by decide +kernel, by decide +kernel⟩
noncomputable abbrev N_48 : List Str := ["_law_hand_here", "_law_some"]
noncomputable abbrev P_48 : List Str := ["_law_hand_here", "_law_some"]
theorem nd_48 : N_48.Nodup := by decide +kernel
theorem sc_48 : FnScope N_48 P_48 (defScope (top 48)) := ⟨rfl, rfl, rfl, nd_48, rfl, by decide +kernel, by decide +kernel⟩
noncomputable abbrev N_49 : List Str := ["_law_hand_here", "_law_hands", "_law_way", "_law_turn", "_law_moves"]
noncomputable abbrev P_49 : List Str := ["_law_hand_here", "_law_hands"]
theorem nd_49 : N_49.Nodup := by decide +kernel
theorem sc_49 : FnScope N_49 P_49 (defScope (top 49)) := ⟨rfl, rfl, rfl, nd_49, rfl, by decide +kernel, by decide +kernel⟩
noncomputable abbrev N_50 : List Str := ["_law_top", "_law_bottom", "_law_one", "_law_other"]
noncomputable abbrev P_50 : List Str := ["_law_top", "_law_bottom"]
theorem nd_50 : N_50.Nodup := by decide +kernel
theorem sc_50 : FnScope N_50 P_50 (defScope (top 50)) := ⟨rfl, rfl, rfl, nd_50, rfl, by decide +kernel, by decide +kernel⟩
noncomputable abbrev N_51 : List Str := ["_law_one", "_law_other"]
noncomputable abbrev P_51 : List Str := ["_law_one", "_law_other"]
theorem nd_51 : N_51.Nodup := by decide +kernel
theorem sc_51 : FnScope N_51 P_51 (defScope (top 51)) := ⟨rfl, rfl, rfl, nd_51, rfl, by decide +kernel, by decide +kernel⟩
noncomputable abbrev N_52 : List Str := ["_law_some", "_law_way", "_law_found", "_law_one"]
noncomputable abbrev P_52 : List Str := ["_law_some", "_law_way"]
theorem nd_52 : N_52.Nodup := by decide +kernel
theorem sc_52 : FnScope N_52 P_52 (defScope (top 52)) := ⟨rfl, rfl, rfl, nd_52, rfl, by decide +kernel, by decide +kernel⟩
noncomputable abbrev N_53 : List Str := ["_law_hand_here", "_law_number", "_law_row_here", "_law_turn", "_law_bottom"]
noncomputable abbrev P_53 : List Str := ["_law_hand_here", "_law_number"]
theorem nd_53 : N_53.Nodup := by decide +kernel
theorem sc_53 : FnScope N_53 P_53 (defScope (top 53)) := ⟨rfl, rfl, rfl, nd_53, rfl, by decide +kernel, by decide +kernel⟩
noncomputable abbrev N_54 : List Str := ["_law_hand_here", "_law_own", "_law_numbers", "_law_rounds", "_law_row_here", "_law_told_here", "_law_turn", "_law_state", "_law_j", "_law_some", "_law_there"]
noncomputable abbrev P_54 : List Str := ["_law_hand_here", "_law_own", "_law_numbers", "_law_rounds"]
theorem nd_54 : N_54.Nodup := by decide +kernel
noncomputable abbrev N_c13 : List Str := ["_law_some", "_law_turn"]
theorem nd_c13 : N_c13.Nodup := by decide +kernel
theorem sc_54 : FnScope N_54 P_54 (defScope (top 54)) := ⟨rfl, rfl, rfl, nd_54, rfl, by decide +kernel, by decide +kernel⟩
noncomputable abbrev N_55 : List Str := ["_law_one", "_law_other", "_law_breadth", "_law_rounds", "_law_apart", "_law_most", "_law_turn"]
noncomputable abbrev P_55 : List Str := ["_law_one", "_law_other", "_law_breadth", "_law_rounds"]
theorem nd_55 : N_55.Nodup := by decide +kernel
theorem sc_55 : FnScope N_55 P_55 (defScope (top 55)) := ⟨rfl, rfl, rfl, nd_55, rfl, by decide +kernel, by decide +kernel⟩
noncomputable abbrev N_56 : List Str := ["_law_answers", "_law_numbers", "_law_rounds", "_law_low_here", "_law_high", "_law_one"]
noncomputable abbrev P_56 : List Str := ["_law_answers", "_law_numbers", "_law_rounds"]
theorem nd_56 : N_56.Nodup := by decide +kernel
noncomputable abbrev N_c14 : List Str := ["_law_other", "_law_one", "_law_high", "_law_low_here", "_law_rounds"]
theorem nd_c14 : N_c14.Nodup := by decide +kernel
theorem sc_56 : FnScope N_56 P_56 (defScope (top 56)) := ⟨rfl, rfl, rfl, nd_56, rfl, by decide +kernel, by decide +kernel⟩
noncomputable abbrev N_57 : List Str := ["_law_hand_here", "_law_hands", "_law_manner", "_law_rounds", "_law_numbers", "_law_jobs", "_law_boxes", "_law_turn", "_law_some", "_law_room", "_law_answers", "_law_beside", "_law_state", "_law_told_here"]
noncomputable abbrev P_57 : List Str := ["_law_hand_here"]
theorem nd_57 : N_57.Nodup := by decide +kernel
noncomputable abbrev N_c15 : List Str := ["_law_own", "_law_hand_here"]
theorem nd_c15 : N_c15.Nodup := by decide +kernel
noncomputable abbrev N_c16 : List Str := ["_law_one", "_law_rounds"]
theorem nd_c16 : N_c16.Nodup := by decide +kernel
noncomputable abbrev N_c17 : List Str := ["_law_own", "_law_hand_here", "_law_numbers", "_law_rounds"]
theorem nd_c17 : N_c17.Nodup := by decide +kernel
noncomputable abbrev N_c18 : List Str := ["_law_told_here", "_law_answer"]
theorem nd_c18 : N_c18.Nodup := by decide +kernel
noncomputable abbrev N_c19 : List Str := ["_law_told_here", "_law_answer"]
theorem nd_c19 : N_c19.Nodup := by decide +kernel
noncomputable abbrev N_c20 : List Str := ["_law_own", "_law_hand_here"]
theorem nd_c20 : N_c20.Nodup := by decide +kernel
theorem sc_57 : FnScope N_57 P_57 (defScope (top 57)) := ⟨rfl, rfl, rfl, nd_57, rfl, by decide +kernel, by decide +kernel⟩
noncomputable abbrev N_58 : List Str := ["_law_found", "_law_due_here"]
noncomputable abbrev P_58 : List Str := ["_law_found", "_law_due_here"]
theorem nd_58 : N_58.Nodup := by decide +kernel
theorem sc_58 : FnScope N_58 P_58 (defScope (top 58)) := ⟨rfl, rfl, rfl, nd_58, rfl, by decide +kernel, by decide +kernel⟩
noncomputable abbrev N_59 : List Str := ["_law_script"]
noncomputable abbrev P_59 : List Str := ["_law_script"]
theorem nd_59 : N_59.Nodup := by decide +kernel
noncomputable abbrev N_c21 : List Str := ["_law_k", "_law_script"]
theorem nd_c21 : N_c21.Nodup := by decide +kernel
theorem sc_59 : FnScope N_59 P_59 (defScope (top 59)) := ⟨rfl, rfl, rfl, nd_59, rfl, by decide +kernel, by decide +kernel⟩
structure Fa (K : PySem.W.Frag) (mg : Str → Option Value) (n : Str) (f : Addr) (fd : FuncData) (ps : List Str) : Prop where
  m : mg n = some (.ref f)
  k : PySem.W.keepIn K (.ref f) = true
  d : Binds K fd ps []
structure Cn (P : Program) (w : World) (K : PySem.W.Frag) (mg : Str → Option Value) (base : Heap) (k : Nat) (f : Nat → Addr) (fd : Nat → FuncData) : Prop where
  o_1 : FnOk P w K mg base CX0 k (f 1) (fd 1) P_1 (spD K 4 (tab k 1))
  q_1 : Fa K mg "closer_course" (f 1) (fd 1) P_1
  o_2 : FnOk P w K mg base CX0 k (f 2) (fd 2) P_2 (spD K 3 (tab k 2))
  q_2 : Fa K mg "others_of_round" (f 2) (fd 2) P_2
  o_3 : FnOk P w K mg base CX0 k (f 3) (fd 3) P_3 (spD K 1 (tab k 3))
  q_3 : Fa K mg "middle" (f 3) (fd 3) P_3
  o_4 : FnOk P w K mg base CX0 k (f 4) (fd 4) P_4 (spD K 2 (tab k 4))
  q_4 : Fa K mg "is_less" (f 4) (fd 4) P_4
  o_5 : FnOk P w K mg base CX0 k (f 5) (fd 5) P_5 (spD K 2 (tab k 5))
  q_5 : Fa K mg "half_sum" (f 5) (fd 5) P_5
  o_6 : FnOk P w K mg base CX0 k (f 6) (fd 6) P_6 (spD K 2 (tab k 6))
  q_6 : Fa K mg "lowest_terms" (f 6) (fd 6) P_6
  o_7 : FnOk P w K mg base CX0 k (f 7) (fd 7) P_7 (spD K 2 (tab k 7))
  q_7 : Fa K mg "common_divisor" (f 7) (fd 7) P_7
  o_10 : FnOk P w K mg base CX0 k (f 10) (fd 10) P_10 (spD K 2 (tab k 10))
  q_10 : Fa K mg "number_of" (f 10) (fd 10) P_10
  o_11 : FnOk P w K mg base CX0 k (f 11) (fd 11) P_11 (spD K 1 (tab k 11))
  q_11 : Fa K mg "hands_of" (f 11) (fd 11) P_11
  o_20 : FnOk P w K mg base CX0 k (f 20) (fd 20) P_20 (spD K 3 (tab k 20))
  q_20 : Fa K mg "sums_course" (f 20) (fd 20) P_20
  o_21 : FnOk P w K mg base CX0 k (f 21) (fd 21) P_21 (spD K 3 (tab k 21))
  q_21 : Fa K mg "sums_deed" (f 21) (fd 21) P_21
  o_23 : FnOk P w K mg base CX0 k (f 23) (fd 23) P_23 (spD K 3 (tab k 23))
  q_23 : Fa K mg "answer_of" (f 23) (fd 23) P_23
  o_24 : FnOk P w K mg base CX0 k (f 24) (fd 24) P_24 (spD K 3 (tab k 24))
  q_24 : Fa K mg "course" (f 24) (fd 24) P_24
  o_25 : FnOk P w K mg base CX0 k (f 25) (fd 25) P_25 (spD K 2 (tab k 25))
  q_25 : Fa K mg "deeds_course" (f 25) (fd 25) P_25
  o_27 : FnOk P w K mg base CX0 k (f 27) (fd 27) P_27 (spD K 2 (tab k 27))
  q_27 : Fa K mg "answers_of" (f 27) (fd 27) P_27
  o_29 : FnOk P w K mg base CX0 k (f 29) (fd 29) P_29 (spD K 3 (tab k 29))
  q_29 : Fa K mg "fit" (f 29) (fd 29) P_29
  o_32 : FnOk P w K mg base CX0 k (f 32) (fd 32) P_32 (spD K 3 (tab k 32))
  q_32 : Fa K mg "closers_fit" (f 32) (fd 32) P_32
  o_33 : FnOk P w K mg base CX0 k (f 33) (fd 33) P_33 (spD K 4 (tab k 33))
  q_33 : Fa K mg "are_close" (f 33) (fd 33) P_33
  o_35 : FnOk P w K mg base CX0 k (f 35) (fd 35) P_35 (spD K 1 (tab k 35))
  q_35 : Fa K mg "first_boxes" (f 35) (fd 35) P_35
  o_36 : FnOk P w K mg base CX0 k (f 36) (fd 36) P_36 (spD K 1 (tab k 36))
  q_36 : Fa K mg "listed_boxes" (f 36) (fd 36) P_36
  o_38 : FnOk P w K mg base CX0 k (f 38) (fd 38) P_38 (spD K 1 (tab k 38))
  q_38 : Fa K mg "own_content" (f 38) (fd 38) P_38
  o_39 : FnOk P w K mg base CX0 k (f 39) (fd 39) P_39 (spD K 2 (tab k 39))
  q_39 : Fa K mg "shake_boxes" (f 39) (fd 39) P_39
  o_40 : FnOk P w K mg base CX0 k (f 40) (fd 40) P_40 (spD K 3 (tab k 40))
  q_40 : Fa K mg "single_boxes" (f 40) (fd 40) P_40
  o_41 : FnOk P w K mg base CX0 k (f 41) (fd 41) P_41 (spD K 2 (tab k 41))
  q_41 : Fa K mg "crossed_boxes" (f 41) (fd 41) P_41
  o_42 : FnOk P w K mg base CX0 k (f 42) (fd 42) P_42 (spD K 1 (tab k 42))
  q_42 : Fa K mg "zeros" (f 42) (fd 42) P_42
  o_44 : FnOk P w K mg base CX0 k (f 44) (fd 44) P_44 (spD K 2 (tab k 44))
  q_44 : Fa K mg "begun" (f 44) (fd 44) P_44
  o_46 : FnOk P w K mg base CX0 k (f 46) (fd 46) P_46 (spD K 2 (tab k 46))
  q_46 : Fa K mg "_law_hand" (f 46) (fd 46) P_46
  o_47 : FnOk P w K mg base CX0 k (f 47) (fd 47) P_47 (spD K 2 (tab k 47))
  q_47 : Fa K mg "_law_take" (f 47) (fd 47) P_47
  o_48 : FnOk P w K mg base CX0 k (f 48) (fd 48) P_48 (spD K 2 (tab k 48))
  q_48 : Fa K mg "_law_pick" (f 48) (fd 48) P_48
  o_49 : FnOk P w K mg base CX0 k (f 49) (fd 49) P_49 (spD K 2 (tab k 49))
  q_49 : Fa K mg "_law_own_manner" (f 49) (fd 49) P_49
  o_50 : FnOk P w K mg base CX0 k (f 50) (fd 50) P_50 (spD K 2 (tab k 50))
  q_50 : Fa K mg "_law_low" (f 50) (fd 50) P_50
  o_51 : FnOk P w K mg base CX0 k (f 51) (fd 51) P_51 (spD K 2 (tab k 51))
  q_51 : Fa K mg "_law_half" (f 51) (fd 51) P_51
  o_52 : FnOk P w K mg base CX0 k (f 52) (fd 52) P_52 (spD K 2 (tab k 52))
  q_52 : Fa K mg "_law_end" (f 52) (fd 52) P_52
  o_53 : FnOk P w K mg base CX0 k (f 53) (fd 53) P_53 (spD K 2 (tab k 53))
  q_53 : Fa K mg "_law_row" (f 53) (fd 53) P_53
  o_54 : FnOk P w K mg base CX0 k (f 54) (fd 54) P_54 (spD K 4 (tab k 54))
  q_54 : Fa K mg "_law_told" (f 54) (fd 54) P_54
  o_55 : FnOk P w K mg base CX0 k (f 55) (fd 55) P_55 (spD K 4 (tab k 55))
  q_55 : Fa K mg "_law_near" (f 55) (fd 55) P_55
  o_56 : FnOk P w K mg base CX0 k (f 56) (fd 56) P_56 (spD K 3 (tab k 56))
  q_56 : Fa K mg "_law_due" (f 56) (fd 56) P_56
  o_57 : FnOk P w K mg base CX0 k (f 57) (fd 57) P_57 (spD K 1 (tab k 57))
  q_57 : Fa K mg "_law_case" (f 57) (fd 57) P_57
  o_58 : FnOk P w K mg base CX0 k (f 58) (fd 58) P_58 (spD K 2 (tab k 58))
  q_58 : Fa K mg "_law_truth" (f 58) (fd 58) P_58
  o_59 : FnOk P w K mg base CX0 k (f 59) (fd 59) P_59 (spD K 1 (tab k 59))
  q_59 : Fa K mg "law" (f 59) (fd 59) P_59
  z_abs : mg "abs" = none
  z_all : mg "all" = none
  z_bool : mg "bool" = none
  z_enumerate : mg "enumerate" = none
  z_int : mg "int" = none
  z_isinstance : mg "isinstance" = none
  z_len : mg "len" = none
  z_max : mg "max" = none
  z_min : mg "min" = none
  z_range : mg "range" = none
  z_sorted : mg "sorted" = none
  z_sum : mg "sum" = none
  z_tuple : mg "tuple" = none
  z_zip : mg "zip" = none
  t_NUMBERS : ∃ a, mg "NUMBERS" = some (.ref a) ∧ DctAt w K a tbl_NUMBERS
section
variable {P : Program} {w : World} {K : PySem.W.Frag} {mg : Str → Option Value} {base : Heap} {k : Nat} {f : Nat → Addr} {fd : Nat → FuncData}
set_option maxHeartbeats 0 in
theorem body_1 (C : Cn P w K mg base k f fd) {cdv : Value} {A : Around} {outer : List Env} {s : Shared} {H : Hp} {E : XK} (hr : Room k (A.deeper (envOfC "closer_course" (defScope (top 1)) s.heap.objs.size (f 1) cdv))) :
    DSs (cxOf CX0 P w K mg base N_1 "closer_course" (defScope (top 1)) (f 1) cdv A outer s H E).nox (defBody (top 1)) (b_1 (tab k)) := by
  have hu := hr.units
  unfold b_1
  refine dss_cons ?_ ?_
  · refine ds_set (i := 4) nd_1 rfl (by first | exact Or.inl rfl | exact Or.inr rfl) ?_
    refine de_ref ?_
    refine da_cons ?_ ?_
    · refine de_tup ?_
      refine da_cons ?_ ?_
      · exact de_var 1
      refine da_cons ?_ ?_
      · exact de_int
      exact da_nil
    exact da_nil
  refine dss_cons ?_ ?_
  · refine ds_for PassesOwn.never rfl ?_ ?_ ?_
    · refine di_seq ?_
      refine de_slice3 ?_ ?_ ?_ ?_
      · exact de_var 3
      · refine do_some ?_
        exact de_int
      · exact do_none
      refine do_some ?_
      exact de_int
    · exact dg_name (i := 5) nd_1 rfl (by first | exact Or.inl rfl | exact Or.inr rfl)
    refine dss_one ?_
    refine ds_expr ?_
    refine de_append ?_ ?_
    · exact de_var 4
    refine de_call C.o_3 hr C.q_3.m C.q_3.k C.q_3.d tab_len_3 ?_
    refine da_cons ?_ ?_
    · refine de_op od_add ?_ ?_
      · refine de_lst ?_
        refine da_cons ?_ ?_
        · refine de_ix ?_ ?_
          · exact de_var 4
          refine de_un ud_neg ?_
          exact de_int
        exact da_nil
      refine de_call C.o_2 hr C.q_2.m C.q_2.k C.q_2.d tab_len_2 ?_
      refine da_cons ?_ ?_
      · exact de_var 0
      refine da_cons ?_ ?_
      · refine de_callB cd_len C.z_len PySem.boot_len ?_
        refine da_cons ?_ ?_
        · exact de_var 4
        exact da_nil
      refine da_cons ?_ ?_
      · exact de_var 5
      exact da_nil
    exact da_nil
  refine dss_cons ?_ ?_
  · refine ds_if ?_ ?_ ?_
    · refine dt_cmp od_gt ?_ ?_
      · refine de_callB cd_len C.z_len PySem.boot_len ?_
        refine da_cons ?_ ?_
        · exact de_var 4
        exact da_nil
      exact de_var 2
    · refine dss_one ?_
      refine ds_ret ?_
      refine de_tup ?_
      refine da_cons ?_ ?_
      · exact de_non
      refine da_cons ?_ ?_
      · refine de_ix ?_ ?_
        · exact de_var 4
        exact de_var 2
      exact da_nil
    exact dss_nil
  refine dss_cons ?_ ?_
  · refine ds_if ?_ ?_ ?_
    · refine dt_cmp (od_eq hu) ?_ ?_
      · refine de_op od_mod ?_ ?_
        · refine de_callB cd_len C.z_len PySem.boot_len ?_
          refine da_cons ?_ ?_
          · exact de_var 3
          exact da_nil
        exact de_int
      exact de_int
    · refine dss_one ?_
      refine ds_ret ?_
      refine de_tup ?_
      refine da_cons ?_ ?_
      · refine de_tup ?_
        refine da_cons ?_ ?_
        · exact de_str
        refine da_cons ?_ ?_
        · exact de_var 0
        refine da_cons ?_ ?_
        · refine de_callTy cd_tup C.z_tuple PyProof.Rows.boot_tuple ?_
          refine da_cons ?_ ?_
          · exact de_var 4
          exact da_nil
        exact da_nil
      refine da_cons ?_ ?_
      · exact de_non
      exact da_nil
    exact dss_nil
  refine dss_one ?_
  refine ds_ret ?_
  refine de_tup ?_
  refine da_cons ?_ ?_
  · refine de_tup ?_
    refine da_cons ?_ ?_
    · exact de_str
    exact da_nil
  refine da_cons ?_ ?_
  · exact de_non
  exact da_nil
set_option maxHeartbeats 0 in
theorem body_2 (C : Cn P w K mg base k f fd) {cdv : Value} {A : Around} {outer : List Env} {s : Shared} {H : Hp} {E : XK} (hr : Room k (A.deeper (envOfC "others_of_round" (defScope (top 2)) s.heap.objs.size (f 2) cdv))) :
    DSs (cxOf CX0 P w K mg base N_2 "others_of_round" (defScope (top 2)) (f 2) cdv A outer s H E).nox (defBody (top 2)) (b_2 (tab k)) := by
  have hu := hr.units
  unfold b_2
  refine dss_cons ?_ ?_
  · refine ds_setcomp rfl rfl (compOk_of (N := N_c0) (fr := [none, none, some 0]) (S := (defScope (top 2))) (XN := N_2) rfl rfl (by decide +kernel)) ?_ (fun _ _ _ _ _ => ⟨?_, ?_, ?_⟩) nd_2 (i := 3) rfl (by first | exact Or.inl rfl | exact Or.inr rfl)
    · refine di_enumT rfl C.z_enumerate ?_
      exact de_var 2
    · refine dg_tup rfl ?_
      refine dgs_cons ?_ ?_
      · exact dg_name (i := 0) nd_c0 rfl (by first | exact Or.inl rfl | exact Or.inr rfl)
      refine dgs_cons ?_ ?_
      · exact dg_name (i := 1) nd_c0 rfl (by first | exact Or.inl rfl | exact Or.inr rfl)
      exact dgs_nil
    · refine difs_one ?_
      refine DW.dt ?_
      refine dw_and ?_ ?_
      · refine dt_cmp (od_neD hu) ?_ ?_
        · exact de_var 0
        exact de_var 2
      refine dw_and1 ?_
      refine dt_tru ?_
      refine de_isi .tuple C.z_isinstance C.z_tuple ?_
      exact de_var 1
    exact de_var 1
  refine dss_one ?_
  refine ds_ret ?_
  refine de_comp rfl rfl (compOk_of (N := N_c1) (fr := [none, some 1]) (S := (defScope (top 2))) (XN := N_2) rfl rfl (by decide +kernel)) ?_ (fun _ _ _ _ _ => ⟨?_, ?_, ?_⟩)
  · refine di_seq ?_
    exact de_var 3
  · exact dg_name (i := 0) nd_c1 rfl (by first | exact Or.inl rfl | exact Or.inr rfl)
  · refine difs_one ?_
    refine dt_cmp od_ge ?_ ?_
    · refine de_callB cd_len C.z_len PySem.boot_len ?_
      refine da_cons ?_ ?_
      · exact de_var 0
      exact da_nil
    exact de_var 1
  refine de_ix ?_ ?_
  · exact de_var 0
  refine de_op od_sub ?_ ?_
  · exact de_var 1
  exact de_int
set_option maxHeartbeats 0 in
theorem body_3 (C : Cn P w K mg base k f fd) {cdv : Value} {A : Around} {outer : List Env} {s : Shared} {H : Hp} {E : XK} (hr : Room k (A.deeper (envOfC "middle" (defScope (top 3)) s.heap.objs.size (f 3) cdv))) :
    DSs (cxOf CX0 P w K mg base N_3 "middle" (defScope (top 3)) (f 3) cdv A outer s H E).nox (defBody (top 3)) (b_3 (tab k)) := by
  have hu := hr.units
  unfold b_3
  refine dss_cons ?_ ?_
  · refine ds_set (i := 1) nd_3 rfl (by first | exact Or.inl rfl | exact Or.inr rfl) ?_
    refine de_ix ?_ ?_
    · exact de_var 0
    exact de_int
  refine dss_cons ?_ ?_
  · refine ds_set (i := 2) nd_3 rfl (by first | exact Or.inl rfl | exact Or.inr rfl) ?_
    refine de_ix ?_ ?_
    · exact de_var 0
    exact de_int
  refine dss_cons ?_ ?_
  · refine ds_for PassesOwn.never rfl ?_ ?_ ?_
    · refine di_seq ?_
      exact de_var 0
    · exact dg_name (i := 3) nd_3 rfl (by first | exact Or.inl rfl | exact Or.inr rfl)
    refine dss_cons ?_ ?_
    · refine ds_if ?_ ?_ ?_
      · refine dt_tru ?_
        refine de_call C.o_4 hr C.q_4.m C.q_4.k C.q_4.d tab_len_4 ?_
        refine da_cons ?_ ?_
        · exact de_var 3
        refine da_cons ?_ ?_
        · exact de_var 1
        exact da_nil
      · refine dss_one ?_
        refine ds_set (i := 1) nd_3 rfl (by first | exact Or.inl rfl | exact Or.inr rfl) ?_
        exact de_var 3
      exact dss_nil
    refine dss_one ?_
    refine ds_if ?_ ?_ ?_
    · refine dt_tru ?_
      refine de_call C.o_4 hr C.q_4.m C.q_4.k C.q_4.d tab_len_4 ?_
      refine da_cons ?_ ?_
      · exact de_var 2
      refine da_cons ?_ ?_
      · exact de_var 3
      exact da_nil
    · refine dss_one ?_
      refine ds_set (i := 2) nd_3 rfl (by first | exact Or.inl rfl | exact Or.inr rfl) ?_
      exact de_var 3
    exact dss_nil
  refine dss_one ?_
  refine ds_ret ?_
  refine de_call C.o_5 hr C.q_5.m C.q_5.k C.q_5.d tab_len_5 ?_
  refine da_cons ?_ ?_
  · exact de_var 1
  refine da_cons ?_ ?_
  · exact de_var 2
  exact da_nil
set_option maxHeartbeats 0 in
theorem body_4 (C : Cn P w K mg base k f fd) {cdv : Value} {A : Around} {outer : List Env} {s : Shared} {H : Hp} {E : XK} (hr : Room k (A.deeper (envOfC "is_less" (defScope (top 4)) s.heap.objs.size (f 4) cdv))) :
    DSs (cxOf CX0 P w K mg base N_4 "is_less" (defScope (top 4)) (f 4) cdv A outer s H E).nox (defBody (top 4)) (b_4 (tab k)) := by
  have hu := hr.units
  unfold b_4
  refine dss_one ?_
  refine ds_ret ?_
  refine de_cmp od_lt ?_ ?_
  · refine de_op od_mul ?_ ?_
    · refine de_ix ?_ ?_
      · exact de_var 0
      exact de_int
    refine de_ix ?_ ?_
    · exact de_var 1
    exact de_int
  refine de_op od_mul ?_ ?_
  · refine de_ix ?_ ?_
    · exact de_var 1
    exact de_int
  refine de_ix ?_ ?_
  · exact de_var 0
  exact de_int
set_option maxHeartbeats 0 in
theorem body_5 (C : Cn P w K mg base k f fd) {cdv : Value} {A : Around} {outer : List Env} {s : Shared} {H : Hp} {E : XK} (hr : Room k (A.deeper (envOfC "half_sum" (defScope (top 5)) s.heap.objs.size (f 5) cdv))) :
    DSs (cxOf CX0 P w K mg base N_5 "half_sum" (defScope (top 5)) (f 5) cdv A outer s H E).nox (defBody (top 5)) (b_5 (tab k)) := by
  have hu := hr.units
  unfold b_5
  refine dss_one ?_
  refine ds_ret ?_
  refine de_call C.o_6 hr C.q_6.m C.q_6.k C.q_6.d tab_len_6 ?_
  refine da_cons ?_ ?_
  · refine de_op od_add ?_ ?_
    · refine de_op od_mul ?_ ?_
      · refine de_ix ?_ ?_
        · exact de_var 0
        exact de_int
      refine de_ix ?_ ?_
      · exact de_var 1
      exact de_int
    refine de_op od_mul ?_ ?_
    · refine de_ix ?_ ?_
      · exact de_var 1
      exact de_int
    refine de_ix ?_ ?_
    · exact de_var 0
    exact de_int
  refine da_cons ?_ ?_
  · refine de_op od_mul ?_ ?_
    · refine de_op od_mul ?_ ?_
      · exact de_int
      refine de_ix ?_ ?_
      · exact de_var 0
      exact de_int
    refine de_ix ?_ ?_
    · exact de_var 1
    exact de_int
  exact da_nil
set_option maxHeartbeats 0 in
theorem body_6 (C : Cn P w K mg base k f fd) {cdv : Value} {A : Around} {outer : List Env} {s : Shared} {H : Hp} {E : XK} (hr : Room k (A.deeper (envOfC "lowest_terms" (defScope (top 6)) s.heap.objs.size (f 6) cdv))) :
    DSs (cxOf CX0 P w K mg base N_6 "lowest_terms" (defScope (top 6)) (f 6) cdv A outer s H E).nox (defBody (top 6)) (b_6 (tab k)) := by
  have hu := hr.units
  unfold b_6
  refine dss_cons ?_ ?_
  · refine ds_set (i := 2) nd_6 rfl (by first | exact Or.inl rfl | exact Or.inr rfl) ?_
    refine de_call C.o_7 hr C.q_7.m C.q_7.k C.q_7.d tab_len_7 ?_
    refine da_cons ?_ ?_
    · refine de_callB cd_abs C.z_abs PyProof.Rows.boot_abs ?_
      refine da_cons ?_ ?_
      · exact de_var 0
      exact da_nil
    refine da_cons ?_ ?_
    · exact de_var 1
    exact da_nil
  refine dss_one ?_
  refine ds_ret ?_
  refine de_tup ?_
  refine da_cons ?_ ?_
  · refine de_op od_fdiv ?_ ?_
    · exact de_var 0
    exact de_var 2
  refine da_cons ?_ ?_
  · refine de_op od_fdiv ?_ ?_
    · exact de_var 1
    exact de_var 2
  exact da_nil
set_option maxHeartbeats 0 in
theorem body_7 (C : Cn P w K mg base k f fd) {cdv : Value} {A : Around} {outer : List Env} {s : Shared} {H : Hp} {E : XK} (hr : Room k (A.deeper (envOfC "common_divisor" (defScope (top 7)) s.heap.objs.size (f 7) cdv))) :
    DSs (cxOf CX0 P w K mg base N_7 "common_divisor" (defScope (top 7)) (f 7) cdv A outer s H E).nox (defBody (top 7)) (b_7 (tab k)) := by
  have hu := hr.units
  unfold b_7
  refine dss_cons ?_ ?_
  · refine ds_while 1000000000 PassesOwn.never ?_ ?_
    · refine dt_cmp (od_neD hu) ?_ ?_
      · exact de_var 1
      exact de_int
    refine dss_cons ?_ ?_
    · refine ds_set (i := 2) nd_7 rfl (by first | exact Or.inl rfl | exact Or.inr rfl) ?_
      refine de_op od_mod ?_ ?_
      · exact de_var 0
      exact de_var 1
    refine dss_cons ?_ ?_
    · refine ds_set (i := 0) nd_7 rfl (by first | exact Or.inl rfl | exact Or.inr rfl) ?_
      exact de_var 1
    refine dss_one ?_
    refine ds_set (i := 1) nd_7 rfl (by first | exact Or.inl rfl | exact Or.inr rfl) ?_
    exact de_var 2
  refine dss_one ?_
  refine ds_ret ?_
  exact de_var 0
set_option maxHeartbeats 0 in
theorem body_10 (C : Cn P w K mg base k f fd) {cdv : Value} {A : Around} {outer : List Env} {s : Shared} {H : Hp} {E : XK} (hr : Room k (A.deeper (envOfC "number_of" (defScope (top 10)) s.heap.objs.size (f 10) cdv))) :
    DSs (cxOf CX0 P w K mg base N_10 "number_of" (defScope (top 10)) (f 10) cdv A outer s H E).nox (defBody (top 10)) (b_10 (tab k)) := by
  have hu := hr.units
  unfold b_10
  refine dss_one ?_
  refine ds_ret ?_
  refine de_ix ?_ ?_
  · exact de_var 0
  refine de_op od_add ?_ ?_
  · exact de_int
  refine de_didx C.t_NUMBERS.choose_spec.2 C.t_NUMBERS.choose_spec.1 ?_ ?_
  · refine de_ix ?_ ?_
    · exact de_var 0
    exact de_int
  exact de_var 1
set_option maxHeartbeats 0 in
theorem body_11 (C : Cn P w K mg base k f fd) {cdv : Value} {A : Around} {outer : List Env} {s : Shared} {H : Hp} {E : XK} (hr : Room k (A.deeper (envOfC "hands_of" (defScope (top 11)) s.heap.objs.size (f 11) cdv))) :
    DSs (cxOf CX0 P w K mg base N_11 "hands_of" (defScope (top 11)) (f 11) cdv A outer s H E).nox (defBody (top 11)) (b_11 (tab k)) := by
  have hu := hr.units
  unfold b_11
  refine dss_one ?_
  refine ds_ret ?_
  refine de_call C.o_10 hr C.q_10.m C.q_10.k C.q_10.d tab_len_10 ?_
  refine da_cons ?_ ?_
  · exact de_var 0
  refine da_cons ?_ ?_
  · exact de_str
  exact da_nil
set_option maxHeartbeats 0 in
theorem body_20 (C : Cn P w K mg base k f fd) {cdv : Value} {A : Around} {outer : List Env} {s : Shared} {H : Hp} {E : XK} (hr : Room k (A.deeper (envOfC "sums_course" (defScope (top 20)) s.heap.objs.size (f 20) cdv))) :
    DSs (cxOf CX0 P w K mg base N_20 "sums_course" (defScope (top 20)) (f 20) cdv A outer s H E).nox (defBody (top 20)) (b_20 (tab k)) := by
  have hu := hr.units
  unfold b_20
  refine dss_cons ?_ ?_
  · refine ds_set (i := 3) nd_20 rfl (by first | exact Or.inl rfl | exact Or.inr rfl) ?_
    refine de_callB cd_len C.z_len PySem.boot_len ?_
    refine da_cons ?_ ?_
    · exact de_var 2
    exact da_nil
  refine dss_cons ?_ ?_
  · refine ds_if ?_ ?_ ?_
    · refine dt_cmp od_lt ?_ ?_
      · exact de_var 3
      refine de_callB cd_len C.z_len PySem.boot_len ?_
      refine da_cons ?_ ?_
      · exact de_var 1
      exact da_nil
    · refine dss_one ?_
      refine ds_ret ?_
      refine de_tup ?_
      refine da_cons ?_ ?_
      · refine de_call C.o_21 hr C.q_21.m C.q_21.k C.q_21.d tab_len_21 ?_
        refine da_cons ?_ ?_
        · exact de_var 0
        refine da_cons ?_ ?_
        · exact de_var 1
        refine da_cons ?_ ?_
        · exact de_var 3
        exact da_nil
      refine da_cons ?_ ?_
      · exact de_non
      exact da_nil
    exact dss_nil
  refine dss_one ?_
  refine ds_ret ?_
  refine de_tup ?_
  refine da_cons ?_ ?_
  · exact de_non
  refine da_cons ?_ ?_
  · refine de_callTy cd_tup C.z_tuple PyProof.Rows.boot_tuple ?_
    refine da_cons ?_ ?_
    · refine de_comp rfl rfl (compOk_of (N := N_c2) (fr := [none, none, some 2]) (S := (defScope (top 20))) (XN := N_20) rfl rfl (by decide +kernel)) ?_ (fun _ _ _ _ _ => ⟨?_, ?_, ?_⟩)
      · refine di_enumT rfl C.z_enumerate ?_
        exact de_var 1
      · refine dg_tup rfl ?_
        refine dgs_cons ?_ ?_
        · exact dg_name (i := 0) nd_c2 rfl (by first | exact Or.inl rfl | exact Or.inr rfl)
        refine dgs_cons ?_ ?_
        · exact dg_name (i := 1) nd_c2 rfl (by first | exact Or.inl rfl | exact Or.inr rfl)
        exact dgs_nil
      · refine difs_one ?_
        refine dt_cmp od_is ?_ ?_
        · exact de_var 1
        exact de_non
      refine de_callB (cd_sumS hr.hd) C.z_sum PyProof.Rows.boot_sum ?_
      refine da_cons ?_ ?_
      · refine de_ix ?_ ?_
        · exact de_var 2
        exact de_var 0
      exact da_nil
    exact da_nil
  exact da_nil
set_option maxHeartbeats 0 in
theorem body_21 (C : Cn P w K mg base k f fd) {cdv : Value} {A : Around} {outer : List Env} {s : Shared} {H : Hp} {E : XK} (hr : Room k (A.deeper (envOfC "sums_deed" (defScope (top 21)) s.heap.objs.size (f 21) cdv))) :
    DSs (cxOf CX0 P w K mg base N_21 "sums_deed" (defScope (top 21)) (f 21) cdv A outer s H E).nox (defBody (top 21)) (b_21 (tab k)) := by
  have hu := hr.units
  unfold b_21
  refine dss_cons ?_ ?_
  · refine ds_if ?_ ?_ ?_
    · refine dt_cmp od_is ?_ ?_
      · refine de_ix ?_ ?_
        · exact de_var 1
        exact de_var 2
      exact de_non
    · refine dss_one ?_
      refine ds_ret ?_
      refine de_tup ?_
      refine da_cons ?_ ?_
      · exact de_str
      exact da_nil
    exact dss_nil
  refine dss_one ?_
  refine ds_ret ?_
  refine de_tup ?_
  refine da_cons ?_ ?_
  · exact de_str
  refine da_cons ?_ ?_
  · exact de_var 0
  refine da_cons ?_ ?_
  · refine de_callB (cd_sumS hr.hd) C.z_sum PyProof.Rows.boot_sum ?_
    refine da_cons ?_ ?_
    · refine de_comp rfl rfl (compOk_of (N := N_c3) (fr := [none]) (S := (defScope (top 21))) (XN := N_21) rfl rfl (by decide +kernel)) ?_ (fun _ _ _ _ _ => ⟨?_, ?_, ?_⟩)
      · refine di_seq ?_
        refine de_slice ?_ ?_ ?_
        · exact de_var 1
        · exact do_none
        refine do_some ?_
        refine de_op od_add ?_ ?_
        · exact de_var 2
        exact de_int
      · exact dg_name (i := 0) nd_c3 rfl (by first | exact Or.inl rfl | exact Or.inr rfl)
      · refine difs_one ?_
        refine dt_cmp od_isnt ?_ ?_
        · exact de_var 0
        exact de_non
      exact de_var 0
    exact da_nil
  exact da_nil
set_option maxHeartbeats 0 in
theorem body_23 (C : Cn P w K mg base k f fd) {cdv : Value} {A : Around} {outer : List Env} {s : Shared} {H : Hp} {E : XK} (hr : Room k (A.deeper (envOfC "answer_of" (defScope (top 23)) s.heap.objs.size (f 23) cdv))) :
    DSs (cxOf CX0 P w K mg base N_23 "answer_of" (defScope (top 23)) (f 23) cdv A outer s H E).nox (defBody (top 23)) (b_23 (tab k)) := by
  have hu := hr.units
  unfold b_23
  refine dss_one ?_
  refine ds_ret ?_
  refine de_ix ?_ ?_
  · refine de_call C.o_24 hr C.q_24.m C.q_24.k C.q_24.d tab_len_24 ?_
    refine da_cons ?_ ?_
    · exact de_var 0
    refine da_cons ?_ ?_
    · exact de_var 1
    refine da_cons ?_ ?_
    · exact de_var 2
    exact da_nil
  exact de_int
set_option maxHeartbeats 0 in
theorem body_24 (C : Cn P w K mg base k f fd) {cdv : Value} {A : Around} {outer : List Env} {s : Shared} {H : Hp} {E : XK} (hr : Room k (A.deeper (envOfC "course" (defScope (top 24)) s.heap.objs.size (f 24) cdv))) :
    DSs (cxOf CX0 P w K mg base N_24 "course" (defScope (top 24)) (f 24) cdv A outer s H E).nox (defBody (top 24)) (b_24 (tab k)) := by
  have hu := hr.units
  unfold b_24
  refine dss_cons ?_ ?_
  · refine ds_set (i := 3) nd_24 rfl (by first | exact Or.inl rfl | exact Or.inr rfl) ?_
    refine de_ix ?_ ?_
    · exact de_var 1
    exact de_int
  refine dss_cons ?_ ?_
  · refine ds_if ?_ ?_ ?_
    · refine dt_cmp (od_eq hu) ?_ ?_
      · exact de_var 3
      exact de_str
    · refine dss_one ?_
      refine ds_ret ?_
      refine de_call C.o_20 hr C.q_20.m C.q_20.k C.q_20.d tab_len_20 ?_
      refine da_cons ?_ ?_
      · exact de_var 0
      refine da_cons ?_ ?_
      · refine de_ix ?_ ?_
        · exact de_var 1
        exact de_int
      refine da_cons ?_ ?_
      · exact de_var 2
      exact da_nil
    exact dss_nil
  refine dss_cons ?_ ?_
  · refine ds_if ?_ ?_ ?_
    · refine dt_cmp (od_eq hu) ?_ ?_
      · exact de_var 3
      exact de_str
    · refine dss_one ?_
      refine ds_ret ?_
      exact de_none
    exact dss_nil
  refine dss_cons ?_ ?_
  · refine ds_if ?_ ?_ ?_
    · refine dt_cmp (od_eq hu) ?_ ?_
      · exact de_var 3
      exact de_str
    · refine dss_one ?_
      refine ds_ret ?_
      exact de_none
    exact dss_nil
  refine dss_cons ?_ ?_
  · refine ds_if ?_ ?_ ?_
    · refine dt_cmp (od_eq hu) ?_ ?_
      · exact de_var 3
      exact de_str
    · refine dss_one ?_
      refine ds_ret ?_
      refine de_call C.o_1 hr C.q_1.m C.q_1.k C.q_1.d tab_len_1 ?_
      refine da_cons ?_ ?_
      · exact de_var 0
      refine da_cons ?_ ?_
      · refine de_ix ?_ ?_
        · exact de_var 1
        exact de_int
      refine da_cons ?_ ?_
      · refine de_ix ?_ ?_
        · exact de_var 1
        exact de_int
      refine da_cons ?_ ?_
      · exact de_var 2
      exact da_nil
    exact dss_nil
  refine dss_one ?_
  refine ds_ret ?_
  refine de_call C.o_25 hr C.q_25.m C.q_25.k C.q_25.d tab_len_25 ?_
  refine da_cons ?_ ?_
  · refine de_ix ?_ ?_
    · exact de_var 1
    exact de_int
  refine da_cons ?_ ?_
  · exact de_var 2
  exact da_nil
set_option maxHeartbeats 0 in
theorem body_25 (C : Cn P w K mg base k f fd) {cdv : Value} {A : Around} {outer : List Env} {s : Shared} {H : Hp} {E : XK} (hr : Room k (A.deeper (envOfC "deeds_course" (defScope (top 25)) s.heap.objs.size (f 25) cdv))) :
    DSs (cxOf CX0 P w K mg base N_25 "deeds_course" (defScope (top 25)) (f 25) cdv A outer s H E).nox (defBody (top 25)) (b_25 (tab k)) := by
  have hu := hr.units
  unfold b_25
  refine dss_cons ?_ ?_
  · refine ds_if ?_ ?_ ?_
    · refine dt_cmp od_lt ?_ ?_
      · refine de_callB cd_len C.z_len PySem.boot_len ?_
        refine da_cons ?_ ?_
        · exact de_var 1
        exact da_nil
      refine de_callB cd_len C.z_len PySem.boot_len ?_
      refine da_cons ?_ ?_
      · exact de_var 0
      exact da_nil
    · refine dss_one ?_
      refine ds_ret ?_
      refine de_tup ?_
      refine da_cons ?_ ?_
      · refine de_ix ?_ ?_
        · exact de_var 0
        refine de_callB cd_len C.z_len PySem.boot_len ?_
        refine da_cons ?_ ?_
        · exact de_var 1
        exact da_nil
      refine da_cons ?_ ?_
      · exact de_non
      exact da_nil
    exact dss_nil
  refine dss_one ?_
  refine ds_ret ?_
  refine de_tup ?_
  refine da_cons ?_ ?_
  · exact de_non
  refine da_cons ?_ ?_
  · refine de_tup ?_
    exact da_nil
  exact da_nil
set_option maxHeartbeats 0 in
theorem body_27 (C : Cn P w K mg base k f fd) {cdv : Value} {A : Around} {outer : List Env} {s : Shared} {H : Hp} {E : XK} (hr : Room k (A.deeper (envOfC "answers_of" (defScope (top 27)) s.heap.objs.size (f 27) cdv))) :
    DSs (cxOf CX0 P w K mg base N_27 "answers_of" (defScope (top 27)) (f 27) cdv A outer s H E).nox (defBody (top 27)) (b_27 (tab k)) := by
  have hu := hr.units
  unfold b_27
  refine dss_cons ?_ ?_
  · refine ds_set (i := 2) nd_27 rfl (by first | exact Or.inl rfl | exact Or.inr rfl) ?_
    refine de_ix ?_ ?_
    · exact de_var 1
    exact de_int
  refine dss_one ?_
  refine ds_ret ?_
  refine de_comp rfl rfl (compOk_of (N := N_c4) (fr := [none, none, some 2]) (S := (defScope (top 27))) (XN := N_27) rfl rfl (by decide +kernel)) ?_ (fun _ _ _ _ _ => ⟨?_, ?_, ?_⟩)
  · refine di_enumT rfl C.z_enumerate ?_
    exact de_var 0
  · refine dg_tup rfl ?_
    refine dgs_cons ?_ ?_
    · exact dg_name (i := 0) nd_c4 rfl (by first | exact Or.inl rfl | exact Or.inr rfl)
    refine dgs_cons ?_ ?_
    · exact dg_name (i := 1) nd_c4 rfl (by first | exact Or.inl rfl | exact Or.inr rfl)
    exact dgs_nil
  · exact difs_nil
  refine de_call C.o_23 hr C.q_23.m C.q_23.k C.q_23.d tab_len_23 ?_
  refine da_cons ?_ ?_
  · exact de_var 0
  refine da_cons ?_ ?_
  · exact de_var 1
  refine da_cons ?_ ?_
  · refine de_ix ?_ ?_
    · refine de_ix ?_ ?_
      · exact de_var 2
      exact de_var 0
    exact de_int
  exact da_nil
set_option maxHeartbeats 0 in
theorem body_29 (C : Cn P w K mg base k f fd) {cdv : Value} {A : Around} {outer : List Env} {s : Shared} {H : Hp} {E : XK} (hr : Room k (A.deeper (envOfC "fit" (defScope (top 29)) s.heap.objs.size (f 29) cdv))) :
    DSs (cxOf CX0 P w K mg base N_29 "fit" (defScope (top 29)) (f 29) cdv A outer s H E).nox (defBody (top 29)) (b_29 (tab k)) := by
  have hu := hr.units
  unfold b_29
  refine dss_cons ?_ ?_
  · refine ds_setcomp rfl rfl (compOk_of (N := N_c5) (fr := [none]) (S := (defScope (top 29))) (XN := N_29) rfl rfl (by decide +kernel)) ?_ (fun _ _ _ _ _ => ⟨?_, ?_, ?_⟩) nd_29 (i := 3) rfl (by first | exact Or.inl rfl | exact Or.inr rfl)
    · refine di_seq ?_
      refine de_call C.o_27 hr C.q_27.m C.q_27.k C.q_27.d tab_len_27 ?_
      refine da_cons ?_ ?_
      · exact de_var 1
      refine da_cons ?_ ?_
      · exact de_var 2
      exact da_nil
    · exact dg_name (i := 0) nd_c5 rfl (by first | exact Or.inl rfl | exact Or.inr rfl)
    · refine difs_one ?_
      refine dt_cmp od_isnt ?_ ?_
      · exact de_var 0
      exact de_non
    exact de_var 0
  refine dss_cons ?_ ?_
  · refine ds_set (i := 4) nd_29 rfl (by first | exact Or.inl rfl | exact Or.inr rfl) ?_
    refine de_ix ?_ ?_
    · refine de_ix ?_ ?_
      · exact de_var 1
      exact de_int
    exact de_int
  refine dss_cons ?_ ?_
  · refine ds_if ?_ ?_ ?_
    · refine dt_cmp (od_eq hu) ?_ ?_
      · exact de_var 4
      exact de_str
    · refine dss_one ?_
      refine ds_ret ?_
      exact de_none
    exact dss_nil
  refine dss_cons ?_ ?_
  · refine ds_if ?_ ?_ ?_
    · refine dt_cmp (od_eq hu) ?_ ?_
      · exact de_var 4
      exact de_str
    · refine dss_one ?_
      refine ds_ret ?_
      exact de_none
    exact dss_nil
  refine dss_cons ?_ ?_
  · refine ds_if ?_ ?_ ?_
    · refine dt_cmp (od_eq hu) ?_ ?_
      · exact de_var 4
      exact de_str
    · refine dss_one ?_
      refine ds_ret ?_
      refine de_call C.o_32 hr C.q_32.m C.q_32.k C.q_32.d tab_len_32 ?_
      refine da_cons ?_ ?_
      · exact de_var 3
      refine da_cons ?_ ?_
      · refine de_comp rfl rfl (compOk_of (N := N_c8) (fr := [none]) (S := (defScope (top 29))) (XN := N_29) rfl rfl (by decide +kernel)) ?_ (fun _ _ _ _ _ => ⟨?_, ?_, ?_⟩)
        · refine di_seq ?_
          exact de_var 1
        · exact dg_name (i := 0) nd_c8 rfl (by first | exact Or.inl rfl | exact Or.inr rfl)
        · exact difs_nil
        refine de_ix ?_ ?_
        · exact de_var 0
        exact de_int
      refine da_cons ?_ ?_
      · refine de_ix ?_ ?_
        · refine de_ix ?_ ?_
          · exact de_var 1
          exact de_int
        exact de_int
      exact da_nil
    exact dss_nil
  refine dss_one ?_
  refine ds_ret ?_
  exact de_bl
set_option maxHeartbeats 0 in
theorem body_32 (C : Cn P w K mg base k f fd) {cdv : Value} {A : Around} {outer : List Env} {s : Shared} {H : Hp} {E : XK} (hr : Room k (A.deeper (envOfC "closers_fit" (defScope (top 32)) s.heap.objs.size (f 32) cdv))) :
    DSs (cxOf CX0 P w K mg base N_32 "closers_fit" (defScope (top 32)) (f 32) cdv A outer s H E).nox (defBody (top 32)) (b_32 (tab k)) := by
  have hu := hr.units
  unfold b_32
  refine dss_cons ?_ ?_
  · refine ds_set (i := 3) nd_32 rfl (by first | exact Or.inl rfl | exact Or.inr rfl) ?_
    refine de_callB (cd_minL hr.hd) C.z_min PyProof.Rows.boot_min ?_
    refine da_cons ?_ ?_
    · exact de_var 1
    exact da_nil
  refine dss_cons ?_ ?_
  · refine ds_set (i := 4) nd_32 rfl (by first | exact Or.inl rfl | exact Or.inr rfl) ?_
    refine de_callB (cd_maxL hr.hd) C.z_max PyProof.Rows.boot_max ?_
    refine da_cons ?_ ?_
    · exact de_var 1
    exact da_nil
  refine dss_cons ?_ ?_
  · refine ds_if ?_ ?_ ?_
    · refine dt_not ?_
      refine dt_tru ?_
      refine de_callB (cd_all rfl) C.z_all PyProof.Rows.boot_all ?_
      refine da_cons ?_ ?_
      · refine de_comp rfl rfl (compOk_of (N := N_c9) (fr := [none, none, some 3, some 4]) (S := (defScope (top 32))) (XN := N_32) rfl rfl (by decide +kernel)) ?_ (fun _ _ _ _ _ => ⟨?_, ?_, ?_⟩)
        · refine di_seq ?_
          exact de_var 0
        · refine dg_tup rfl ?_
          refine dgs_cons ?_ ?_
          · exact dg_name (i := 0) nd_c9 rfl (by first | exact Or.inl rfl | exact Or.inr rfl)
          refine dgs_cons ?_ ?_
          · exact dg_name (i := 1) nd_c9 rfl (by first | exact Or.inl rfl | exact Or.inr rfl)
          exact dgs_nil
        · exact difs_nil
        refine de_chain od_le od_le ?_ ?_ ?_
        · refine de_op od_mul ?_ ?_
          · exact de_var 2
          exact de_var 1
        · exact de_var 0
        refine de_op od_mul ?_ ?_
        · exact de_var 3
        exact de_var 1
      exact da_nil
    · refine dss_one ?_
      refine ds_ret ?_
      exact de_bl
    exact dss_nil
  refine dss_cons ?_ ?_
  · refine ds_for PassesOwn.never rfl ?_ ?_ ?_
    · refine di_seq ?_
      exact de_var 0
    · exact dg_name (i := 5) nd_32 rfl (by first | exact Or.inl rfl | exact Or.inr rfl)
    refine dss_one ?_
    refine ds_if ?_ ?_ ?_
    · refine dt_not ?_
      refine dt_tru ?_
      refine de_callB (cd_all rfl) C.z_all PyProof.Rows.boot_all ?_
      refine da_cons ?_ ?_
      · refine de_comp rfl rfl (compOk_of (N := N_c10) (fr := [none, some 5, some 4, some 3, some 2]) (S := (defScope (top 32))) (XN := N_32) rfl rfl (by decide +kernel)) ?_ (fun _ _ _ _ _ => ⟨?_, ?_, ?_⟩)
        · refine di_seq ?_
          exact de_var 0
        · exact dg_name (i := 0) nd_c10 rfl (by first | exact Or.inl rfl | exact Or.inr rfl)
        · exact difs_nil
        refine de_call C.o_33 hr C.q_33.m C.q_33.k C.q_33.d tab_len_33 ?_
        refine da_cons ?_ ?_
        · exact de_var 1
        refine da_cons ?_ ?_
        · exact de_var 0
        refine da_cons ?_ ?_
        · refine de_op od_sub ?_ ?_
          · exact de_var 2
          exact de_var 3
        refine da_cons ?_ ?_
        · exact de_var 4
        exact da_nil
      exact da_nil
    · refine dss_one ?_
      refine ds_ret ?_
      exact de_bl
    exact dss_nil
  refine dss_one ?_
  refine ds_ret ?_
  exact de_bl
set_option maxHeartbeats 0 in
theorem body_33 (C : Cn P w K mg base k f fd) {cdv : Value} {A : Around} {outer : List Env} {s : Shared} {H : Hp} {E : XK} (hr : Room k (A.deeper (envOfC "are_close" (defScope (top 33)) s.heap.objs.size (f 33) cdv))) :
    DSs (cxOf CX0 P w K mg base N_33 "are_close" (defScope (top 33)) (f 33) cdv A outer s H E).nox (defBody (top 33)) (b_33 (tab k)) := by
  have hu := hr.units
  unfold b_33
  refine dss_cons ?_ ?_
  · refine ds_set (i := 4) nd_33 rfl (by first | exact Or.inl rfl | exact Or.inr rfl) ?_
    refine de_callB cd_abs C.z_abs PyProof.Rows.boot_abs ?_
    refine da_cons ?_ ?_
    · refine de_op od_sub ?_ ?_
      · refine de_op od_mul ?_ ?_
        · refine de_ix ?_ ?_
          · exact de_var 0
          exact de_int
        refine de_ix ?_ ?_
        · exact de_var 1
        exact de_int
      refine de_op od_mul ?_ ?_
      · refine de_ix ?_ ?_
        · exact de_var 1
        exact de_int
      refine de_ix ?_ ?_
      · exact de_var 0
      exact de_int
    exact da_nil
  refine dss_one ?_
  refine ds_ret ?_
  refine de_cmp od_le ?_ ?_
  · refine de_op od_mul ?_ ?_
    · exact de_var 4
    refine de_op od_shl ?_ ?_
    · exact de_int
    exact de_var 3
  refine de_op od_mul ?_ ?_
  · refine de_op od_mul ?_ ?_
    · exact de_var 2
    refine de_ix ?_ ?_
    · exact de_var 0
    exact de_int
  refine de_ix ?_ ?_
  · exact de_var 1
  exact de_int
set_option maxHeartbeats 0 in
theorem body_35 (C : Cn P w K mg base k f fd) {cdv : Value} {A : Around} {outer : List Env} {s : Shared} {H : Hp} {E : XK} (hr : Room k (A.deeper (envOfC "first_boxes" (defScope (top 35)) s.heap.objs.size (f 35) cdv))) :
    DSs (cxOf CX0 P w K mg base N_35 "first_boxes" (defScope (top 35)) (f 35) cdv A outer s H E).nox (defBody (top 35)) (b_35 (tab k)) := by
  have hu := hr.units
  unfold b_35
  refine dss_one ?_
  refine ds_ret ?_
  refine de_callTy cd_tup C.z_tuple PyProof.Rows.boot_tuple ?_
  refine da_cons ?_ ?_
  · refine de_callB (cd_sortT hu) C.z_sorted PyProof.Rows.boot_sorted ?_
    refine da_cons ?_ ?_
    · refine de_call C.o_36 hr C.q_36.m C.q_36.k C.q_36.d tab_len_36 ?_
      refine da_cons ?_ ?_
      · exact de_var 0
      exact da_nil
    exact da_nil
  exact da_nil
set_option maxHeartbeats 0 in
theorem body_36 (C : Cn P w K mg base k f fd) {cdv : Value} {A : Around} {outer : List Env} {s : Shared} {H : Hp} {E : XK} (hr : Room k (A.deeper (envOfC "listed_boxes" (defScope (top 36)) s.heap.objs.size (f 36) cdv))) :
    DSs (cxOf CX0 P w K mg base N_36 "listed_boxes" (defScope (top 36)) (f 36) cdv A outer s H E).nox (defBody (top 36)) (b_36 (tab k)) := by
  have hu := hr.units
  unfold b_36
  refine dss_cons ?_ ?_
  · refine ds_set (i := 1) nd_36 rfl (by first | exact Or.inl rfl | exact Or.inr rfl) ?_
    refine de_ix ?_ ?_
    · exact de_var 0
    exact de_int
  refine dss_cons ?_ ?_
  · refine ds_if ?_ ?_ ?_
    · refine dt_cmp (od_eq hu) ?_ ?_
      · exact de_var 1
      exact de_str
    · refine dss_one ?_
      refine ds_ret ?_
      refine de_call C.o_40 hr C.q_40.m C.q_40.k C.q_40.d tab_len_40 ?_
      refine da_cons ?_ ?_
      · exact de_str
      refine da_cons ?_ ?_
      · refine de_call C.o_10 hr C.q_10.m C.q_10.k C.q_10.d tab_len_10 ?_
        refine da_cons ?_ ?_
        · exact de_var 0
        refine da_cons ?_ ?_
        · exact de_str
        exact da_nil
      refine da_cons ?_ ?_
      · exact de_int
      exact da_nil
    exact dss_nil
  refine dss_cons ?_ ?_
  · refine ds_if ?_ ?_ ?_
    · refine dt_cmp (od_eq hu) ?_ ?_
      · exact de_var 1
      exact de_str
    · refine dss_one ?_
      refine ds_ret ?_
      exact de_none
    exact dss_nil
  refine dss_cons ?_ ?_
  · refine ds_set (i := 2) nd_36 rfl (by first | exact Or.inl rfl | exact Or.inr rfl) ?_
    refine de_call C.o_40 hr C.q_40.m C.q_40.k C.q_40.d tab_len_40 ?_
    refine da_cons ?_ ?_
    · exact de_str
    refine da_cons ?_ ?_
    · refine de_call C.o_11 hr C.q_11.m C.q_11.k C.q_11.d tab_len_11 ?_
      refine da_cons ?_ ?_
      · exact de_var 0
      exact da_nil
    refine da_cons ?_ ?_
    · refine de_call C.o_38 hr C.q_38.m C.q_38.k C.q_38.d tab_len_38 ?_
      refine da_cons ?_ ?_
      · exact de_var 0
      exact da_nil
    exact da_nil
  refine dss_cons ?_ ?_
  · refine ds_if ?_ ?_ ?_
    · refine dt_cmp (od_eq hu) ?_ ?_
      · exact de_var 1
      exact de_str
    · refine dss_one ?_
      refine ds_ret ?_
      refine de_op od_add ?_ ?_
      · exact de_var 2
      refine de_call C.o_39 hr C.q_39.m C.q_39.k C.q_39.d tab_len_39 ?_
      refine da_cons ?_ ?_
      · exact de_var 0
      refine da_cons ?_ ?_
      · refine de_tup ?_
        refine da_cons ?_ ?_
        · exact de_str
        exact da_nil
      exact da_nil
    exact dss_nil
  refine dss_one ?_
  refine ds_ret ?_
  exact de_var 2
set_option maxHeartbeats 0 in
theorem body_38 (C : Cn P w K mg base k f fd) {cdv : Value} {A : Around} {outer : List Env} {s : Shared} {H : Hp} {E : XK} (hr : Room k (A.deeper (envOfC "own_content" (defScope (top 38)) s.heap.objs.size (f 38) cdv))) :
    DSs (cxOf CX0 P w K mg base N_38 "own_content" (defScope (top 38)) (f 38) cdv A outer s H E).nox (defBody (top 38)) (b_38 (tab k)) := by
  have hu := hr.units
  unfold b_38
  refine dss_cons ?_ ?_
  · refine ds_set (i := 1) nd_38 rfl (by first | exact Or.inl rfl | exact Or.inr rfl) ?_
    refine de_ix ?_ ?_
    · exact de_var 0
    exact de_int
  refine dss_cons ?_ ?_
  · refine ds_if ?_ ?_ ?_
    · refine dt_cmp (od_eq hu) ?_ ?_
      · exact de_var 1
      exact de_str
    · refine dss_one ?_
      refine ds_ret ?_
      exact de_int
    exact dss_nil
  refine dss_cons ?_ ?_
  · refine ds_if ?_ ?_ ?_
    · refine dt_cmp (od_eq hu) ?_ ?_
      · exact de_var 1
      exact de_str
    · refine dss_one ?_
      refine ds_ret ?_
      refine de_tup ?_
      refine da_cons ?_ ?_
      · exact de_int
      refine da_cons ?_ ?_
      · exact de_int
      exact da_nil
    exact dss_nil
  refine dss_cons ?_ ?_
  · refine ds_set (i := 2) nd_38 rfl (by first | exact Or.inl rfl | exact Or.inr rfl) ?_
    refine de_call C.o_42 hr C.q_42.m C.q_42.k C.q_42.d tab_len_42 ?_
    refine da_cons ?_ ?_
    · refine de_call C.o_11 hr C.q_11.m C.q_11.k C.q_11.d tab_len_11 ?_
      refine da_cons ?_ ?_
      · exact de_var 0
      exact da_nil
    exact da_nil
  refine dss_cons ?_ ?_
  · refine ds_if ?_ ?_ ?_
    · refine dt_cmp (od_eq hu) ?_ ?_
      · exact de_var 1
      exact de_str
    · refine dss_one ?_
      refine ds_ret ?_
      refine de_tup ?_
      refine da_cons ?_ ?_
      · exact de_int
      refine da_cons ?_ ?_
      · exact de_int
      refine da_cons ?_ ?_
      · exact de_var 2
      exact da_nil
    exact dss_nil
  refine dss_one ?_
  refine ds_ret ?_
  refine de_tup ?_
  refine da_cons ?_ ?_
  · exact de_int
  refine da_cons ?_ ?_
  · exact de_var 2
  refine da_cons ?_ ?_
  · exact de_int
  refine da_cons ?_ ?_
  · exact de_var 2
  exact da_nil
set_option maxHeartbeats 0 in
theorem body_39 (C : Cn P w K mg base k f fd) {cdv : Value} {A : Around} {outer : List Env} {s : Shared} {H : Hp} {E : XK} (hr : Room k (A.deeper (envOfC "shake_boxes" (defScope (top 39)) s.heap.objs.size (f 39) cdv))) :
    DSs (cxOf CX0 P w K mg base N_39 "shake_boxes" (defScope (top 39)) (f 39) cdv A outer s H E).nox (defBody (top 39)) (b_39 (tab k)) := by
  have hu := hr.units
  unfold b_39
  refine dss_cons ?_ ?_
  · refine ds_set (i := 2) nd_39 rfl (by first | exact Or.inl rfl | exact Or.inr rfl) ?_
    refine de_ref ?_
    exact da_nil
  refine dss_cons ?_ ?_
  · refine ds_if ?_ ?_ ?_
    · refine dt_cmp (od_eq hu) ?_ ?_
      · refine de_call C.o_10 hr C.q_10.m C.q_10.k C.q_10.d tab_len_10 ?_
        refine da_cons ?_ ?_
        · exact de_var 0
        refine da_cons ?_ ?_
        · exact de_str
        exact da_nil
      exact de_int
    · refine dss_one ?_
      refine ds_for PassesOwn.never rfl ?_ ?_ ?_
      · refine di_seq ?_
        exact de_var 1
      · exact dg_name (i := 3) nd_39 rfl (by first | exact Or.inl rfl | exact Or.inr rfl)
      refine dss_one ?_
      refine ds_expr ?_
      refine de_extend ?_ ?_
      · exact de_var 2
      refine de_call C.o_41 hr C.q_41.m C.q_41.k C.q_41.d tab_len_41 ?_
      refine da_cons ?_ ?_
      · exact de_var 3
      refine da_cons ?_ ?_
      · refine de_call C.o_11 hr C.q_11.m C.q_11.k C.q_11.d tab_len_11 ?_
        refine da_cons ?_ ?_
        · exact de_var 0
        exact da_nil
      exact da_nil
    exact dss_nil
  refine dss_one ?_
  refine ds_ret ?_
  exact de_var 2
set_option maxHeartbeats 0 in
theorem body_40 (C : Cn P w K mg base k f fd) {cdv : Value} {A : Around} {outer : List Env} {s : Shared} {H : Hp} {E : XK} (hr : Room k (A.deeper (envOfC "single_boxes" (defScope (top 40)) s.heap.objs.size (f 40) cdv))) :
    DSs (cxOf CX0 P w K mg base N_40 "single_boxes" (defScope (top 40)) (f 40) cdv A outer s H E).nox (defBody (top 40)) (b_40 (tab k)) := by
  have hu := hr.units
  unfold b_40
  refine dss_one ?_
  refine ds_ret ?_
  refine de_comp rfl rfl (compOk_of (N := N_c11) (fr := [none, some 0, some 2]) (S := (defScope (top 40))) (XN := N_40) rfl rfl (by decide +kernel)) ?_ (fun _ _ _ _ _ => ⟨?_, ?_, ?_⟩)
  · refine di_r1 rfl C.z_range ?_
    refine da_cons ?_ ?_
    · exact de_var 1
    exact da_nil
  · exact dg_name (i := 0) nd_c11 rfl (by first | exact Or.inl rfl | exact Or.inr rfl)
  · exact difs_nil
  refine de_tup ?_
  refine da_cons ?_ ?_
  · refine de_tup ?_
    refine da_cons ?_ ?_
    · exact de_var 1
    refine da_cons ?_ ?_
    · exact de_var 0
    exact da_nil
  refine da_cons ?_ ?_
  · exact de_var 2
  exact da_nil
set_option maxHeartbeats 0 in
theorem body_41 (C : Cn P w K mg base k f fd) {cdv : Value} {A : Around} {outer : List Env} {s : Shared} {H : Hp} {E : XK} (hr : Room k (A.deeper (envOfC "crossed_boxes" (defScope (top 41)) s.heap.objs.size (f 41) cdv))) :
    DSs (cxOf CX0 P w K mg base N_41 "crossed_boxes" (defScope (top 41)) (f 41) cdv A outer s H E).nox (defBody (top 41)) (b_41 (tab k)) := by
  have hu := hr.units
  unfold b_41
  refine dss_cons ?_ ?_
  · refine ds_set (i := 2) nd_41 rfl (by first | exact Or.inl rfl | exact Or.inr rfl) ?_
    refine de_ref ?_
    exact da_nil
  refine dss_cons ?_ ?_
  · refine ds_for PassesOwn.never rfl ?_ ?_ ?_
    · refine di_r1 rfl C.z_range ?_
      refine da_cons ?_ ?_
      · exact de_var 1
      exact da_nil
    · exact dg_name (i := 3) nd_41 rfl (by first | exact Or.inl rfl | exact Or.inr rfl)
    refine dss_one ?_
    refine ds_expr ?_
    refine de_extend ?_ ?_
    · exact de_var 2
    refine de_comp rfl rfl (compOk_of (N := N_c12) (fr := [none, some 3, some 0]) (S := (defScope (top 41))) (XN := N_41) rfl rfl (by decide +kernel)) ?_ (fun _ _ _ _ _ => ⟨?_, ?_, ?_⟩)
    · refine di_r1 rfl C.z_range ?_
      refine da_cons ?_ ?_
      · exact de_var 1
      exact da_nil
    · exact dg_name (i := 0) nd_c12 rfl (by first | exact Or.inl rfl | exact Or.inr rfl)
    · refine difs_one ?_
      refine dt_cmp (od_neD hu) ?_ ?_
      · exact de_var 0
      exact de_var 1
    refine de_tup ?_
    refine da_cons ?_ ?_
    · refine de_tup ?_
      refine da_cons ?_ ?_
      · exact de_var 2
      refine da_cons ?_ ?_
      · exact de_var 1
      refine da_cons ?_ ?_
      · exact de_var 0
      exact da_nil
    refine da_cons ?_ ?_
    · exact de_int
    exact da_nil
  refine dss_one ?_
  refine ds_ret ?_
  exact de_var 2
set_option maxHeartbeats 0 in
theorem body_42 (C : Cn P w K mg base k f fd) {cdv : Value} {A : Around} {outer : List Env} {s : Shared} {H : Hp} {E : XK} (hr : Room k (A.deeper (envOfC "zeros" (defScope (top 42)) s.heap.objs.size (f 42) cdv))) :
    DSs (cxOf CX0 P w K mg base N_42 "zeros" (defScope (top 42)) (f 42) cdv A outer s H E).nox (defBody (top 42)) (b_42 (tab k)) := by
  have hu := hr.units
  unfold b_42
  refine dss_one ?_
  refine ds_ret ?_
  refine de_op od_mul ?_ ?_
  · refine de_tup ?_
    refine da_cons ?_ ?_
    · exact de_int
    exact da_nil
  exact de_var 0
set_option maxHeartbeats 0 in
theorem body_44 (C : Cn P w K mg base k f fd) {cdv : Value} {A : Around} {outer : List Env} {s : Shared} {H : Hp} {E : XK} (hr : Room k (A.deeper (envOfC "begun" (defScope (top 44)) s.heap.objs.size (f 44) cdv))) :
    DSs (cxOf CX0 P w K mg base N_44 "begun" (defScope (top 44)) (f 44) cdv A outer s H E).nox (defBody (top 44)) (b_44 (tab k)) := by
  have hu := hr.units
  unfold b_44
  refine dss_one ?_
  refine ds_ret ?_
  refine de_tup ?_
  refine da_cons ?_ ?_
  · refine de_call C.o_35 hr C.q_35.m C.q_35.k C.q_35.d tab_len_35 ?_
    refine da_cons ?_ ?_
    · exact de_var 0
    exact da_nil
  refine da_cons ?_ ?_
  · refine de_op od_mul ?_ ?_
    · refine de_tup ?_
      refine da_cons ?_ ?_
      · refine de_tup ?_
        refine da_cons ?_ ?_
        · refine de_tup ?_
          exact da_nil
        refine da_cons ?_ ?_
        · refine de_tup ?_
          exact da_nil
        refine da_cons ?_ ?_
        · refine de_tup ?_
          exact da_nil
        exact da_nil
      exact da_nil
    refine de_call C.o_11 hr C.q_11.m C.q_11.k C.q_11.d tab_len_11 ?_
    refine da_cons ?_ ?_
    · exact de_var 0
    exact da_nil
  exact da_nil
set_option maxHeartbeats 0 in
theorem body_46 (C : Cn P w K mg base k f fd) {cdv : Value} {A : Around} {outer : List Env} {s : Shared} {H : Hp} {E : XK} (hr : Room k (A.deeper (envOfC "_law_hand" (defScope (top 46)) s.heap.objs.size (f 46) cdv))) :
    DSs (cxOf CX0 P w K mg base N_46 "_law_hand" (defScope (top 46)) (f 46) cdv A outer s H E).nox (defBody (top 46)) (b_46 (tab k)) := by
  have hu := hr.units
  unfold b_46
  refine dss_cons ?_ ?_
  · refine ds_set (i := 2) nd_46 rfl (by first | exact Or.inl rfl | exact Or.inr rfl) ?_
    exact de_int
  refine dss_cons ?_ ?_
  · refine ds_if ?_ ?_ ?_
    · refine dt_cmp od_lt ?_ ?_
      · exact de_var 1
      refine de_callB cd_len C.z_len PySem.boot_len ?_
      refine da_cons ?_ ?_
      · exact de_var 0
      exact da_nil
    · refine dss_one ?_
      refine ds_set (i := 2) nd_46 rfl (by first | exact Or.inl rfl | exact Or.inr rfl) ?_
      refine de_ix ?_ ?_
      · exact de_var 0
      exact de_var 1
    exact dss_nil
  refine dss_one ?_
  refine ds_ret ?_
  refine de_ref ?_
  refine da_cons ?_ ?_
  · refine de_op od_mul ?_ ?_
    · exact de_var 2
    refine de_callTy cd_int C.z_int PyProof.Rows.boot_int ?_
    refine da_cons ?_ ?_
    · refine de_cmp od_ge ?_ ?_
      · exact de_var 2
      refine de_op od_pow ?_ ?_
      · exact de_int
      exact de_int
    exact da_nil
  refine da_cons ?_ ?_
  · refine de_op od_add ?_ ?_
    · refine de_op od_add ?_ ?_
      · refine de_op od_mod ?_ ?_
        · exact de_var 2
        exact de_int
      refine de_op od_mul ?_ ?_
      · exact de_int
      exact de_var 1
    exact de_int
  refine da_cons ?_ ?_
  · exact de_int
  exact da_nil
set_option maxHeartbeats 0 in
theorem body_47 (C : Cn P w K mg base k f fd) {cdv : Value} {A : Around} {outer : List Env} {s : Shared} {H : Hp} {E : XK} (hr : Room k (A.deeper (envOfC "_law_take" (defScope (top 47)) s.heap.objs.size (f 47) cdv))) :
    DSs (cxOf CX0 P w K mg base N_47 "_law_take" (defScope (top 47)) (f 47) cdv A outer s H E).nox (defBody (top 47)) (b_47 (tab k)) := by
  have hu := hr.units
  unfold b_47
  refine dss_cons ?_ ?_
  · refine ds_if ?_ ?_ ?_
    · refine dt_cmp od_gt ?_ ?_
      · refine de_ix ?_ ?_
        · exact de_var 0
        exact de_int
      exact de_int
    · refine dss_cons ?_ ?_
      · refine ds_set (i := 2) nd_47 rfl (by first | exact Or.inl rfl | exact Or.inr rfl) ?_
        refine de_op od_mod ?_ ?_
        · refine de_ix ?_ ?_
          · exact de_var 0
          exact de_int
        exact de_var 1
      refine dss_cons ?_ ?_
      · refine ds_asg ?_ ?_
        · refine de_op od_fdiv ?_ ?_
          · refine de_ix ?_ ?_
            · exact de_var 0
            exact de_int
          exact de_var 1
        refine dg_sub ?_ ?_
        · exact de_var 0
        exact de_int
      refine dss_one ?_
      refine ds_ret ?_
      exact de_var 2
    exact dss_nil
  refine dss_cons ?_ ?_
  · refine ds_asg ?_ ?_
    · refine de_op od_add ?_ ?_
      · refine de_ix ?_ ?_
        · exact de_var 0
        exact de_int
      exact de_int
    refine dg_sub ?_ ?_
    · exact de_var 0
    exact de_int
  refine dss_cons ?_ ?_
  · refine ds_set (i := 3) nd_47 rfl (by first | exact Or.inl rfl | exact Or.inr rfl) ?_
    refine de_ix ?_ ?_
    · exact de_var 0
    exact de_int
  refine dss_cons ?_ ?_
  · refine ds_set (i := 4) nd_47 rfl (by first | exact Or.inl rfl | exact Or.inr rfl) ?_
    refine de_op od_mod ?_ ?_
    · refine de_op od_mul ?_ ?_
      · refine de_ix ?_ ?_
        · exact de_var 0
        exact de_int
      refine de_op od_add ?_ ?_
      · refine de_op od_add ?_ ?_
        · exact de_int
        refine de_op od_mul ?_ ?_
        · refine de_op od_mul ?_ ?_
          · exact de_int
          exact de_var 3
        exact de_var 3
      refine de_op od_mul ?_ ?_
      · exact de_int
      exact de_var 3
    exact de_int
  refine dss_cons ?_ ?_
  · refine ds_set (i := 5) nd_47 rfl (by first | exact Or.inl rfl | exact Or.inr rfl) ?_
    refine de_op od_add ?_ ?_
    · refine de_op od_add ?_ ?_
      · refine de_op od_mod ?_ ?_
        · exact de_var 4
        exact de_int
      refine de_op od_mul ?_ ?_
      · exact de_var 3
      exact de_int
    exact de_int
  refine dss_cons ?_ ?_
  · refine ds_set (i := 4) nd_47 rfl (by first | exact Or.inl rfl | exact Or.inr rfl) ?_
    refine de_op od_mod ?_ ?_
    · refine de_op od_mul ?_ ?_
      · exact de_var 4
      exact de_var 5
    exact de_int
  refine dss_one ?_
  refine ds_ret ?_
  refine de_op od_mod ?_ ?_
  · refine de_op od_add ?_ ?_
    · refine de_op od_fdiv ?_ ?_
      · exact de_var 4
      exact de_int
    refine de_op od_fdiv ?_ ?_
    · exact de_var 4
    exact de_int
  exact de_var 1
set_option maxHeartbeats 0 in
theorem body_48 (C : Cn P w K mg base k f fd) {cdv : Value} {A : Around} {outer : List Env} {s : Shared} {H : Hp} {E : XK} (hr : Room k (A.deeper (envOfC "_law_pick" (defScope (top 48)) s.heap.objs.size (f 48) cdv))) :
    DSs (cxOf CX0 P w K mg base N_48 "_law_pick" (defScope (top 48)) (f 48) cdv A outer s H E).nox (defBody (top 48)) (b_48 (tab k)) := by
  have hu := hr.units
  unfold b_48
  refine dss_one ?_
  refine ds_ret ?_
  refine de_ix ?_ ?_
  · exact de_var 1
  refine de_call C.o_47 hr C.q_47.m C.q_47.k C.q_47.d tab_len_47 ?_
  refine da_cons ?_ ?_
  · exact de_var 0
  refine da_cons ?_ ?_
  · refine de_callB cd_len C.z_len PySem.boot_len ?_
    refine da_cons ?_ ?_
    · exact de_var 1
    exact da_nil
  exact da_nil
set_option maxHeartbeats 0 in
theorem body_49 (C : Cn P w K mg base k f fd) {cdv : Value} {A : Around} {outer : List Env} {s : Shared} {H : Hp} {E : XK} (hr : Room k (A.deeper (envOfC "_law_own_manner" (defScope (top 49)) s.heap.objs.size (f 49) cdv))) :
    DSs (cxOf CX0 P w K mg base N_49 "_law_own_manner" (defScope (top 49)) (f 49) cdv A outer s H E).nox (defBody (top 49)) (b_49 (tab k)) := by
  have hu := hr.units
  unfold b_49
  refine dss_cons ?_ ?_
  · refine ds_set (i := 2) nd_49 rfl (by first | exact Or.inl rfl | exact Or.inr rfl) ?_
    refine de_call C.o_47 hr C.q_47.m C.q_47.k C.q_47.d tab_len_47 ?_
    refine da_cons ?_ ?_
    · exact de_var 0
    refine da_cons ?_ ?_
    · exact de_int
    exact da_nil
  refine dss_cons ?_ ?_
  · refine ds_par (i := 3) (j := 4) rfl nd_49 rfl rfl (by decide) rfl rfl ?_ (by rfl)
    refine da_cons ?_ ?_
    · refine de_call C.o_48 hr C.q_48.m C.q_48.k C.q_48.d tab_len_48 ?_
      refine da_cons ?_ ?_
      · exact de_var 0
      refine da_cons ?_ ?_
      · refine de_lst ?_
        refine da_cons ?_ ?_
        · exact de_int
        refine da_cons ?_ ?_
        · exact de_int
        refine da_cons ?_ ?_
        · exact de_int
        refine da_cons ?_ ?_
        · exact de_int
        exact da_nil
      exact da_nil
    refine da_cons ?_ ?_
    · refine de_op od_add ?_ ?_
      · exact de_int
      refine de_call C.o_47 hr C.q_47.m C.q_47.k C.q_47.d tab_len_47 ?_
      refine da_cons ?_ ?_
      · exact de_var 0
      refine da_cons ?_ ?_
      · exact de_int
      exact da_nil
    exact da_nil
  refine dss_one ?_
  refine ds_ret ?_
  refine de_ix ?_ ?_
  · refine de_lst ?_
    refine da_cons ?_ ?_
    · refine de_tup ?_
      refine da_cons ?_ ?_
      · exact de_str
      refine da_cons ?_ ?_
      · exact de_var 1
      exact da_nil
    refine da_cons ?_ ?_
    · refine de_tup ?_
      refine da_cons ?_ ?_
      · exact de_str
      refine da_cons ?_ ?_
      · exact de_var 1
      refine da_cons ?_ ?_
      · exact de_var 3
      exact da_nil
    refine da_cons ?_ ?_
    · refine de_tup ?_
      refine da_cons ?_ ?_
      · exact de_str
      refine da_cons ?_ ?_
      · exact de_var 1
      refine da_cons ?_ ?_
      · exact de_var 3
      refine da_cons ?_ ?_
      · exact de_var 4
      exact da_nil
    refine da_cons ?_ ?_
    · refine de_tup ?_
      refine da_cons ?_ ?_
      · exact de_str
      refine da_cons ?_ ?_
      · exact de_var 1
      refine da_cons ?_ ?_
      · refine de_call C.o_47 hr C.q_47.m C.q_47.k C.q_47.d tab_len_47 ?_
        refine da_cons ?_ ?_
        · exact de_var 0
        refine da_cons ?_ ?_
        · exact de_int
        exact da_nil
      refine da_cons ?_ ?_
      · refine de_call C.o_47 hr C.q_47.m C.q_47.k C.q_47.d tab_len_47 ?_
        refine da_cons ?_ ?_
        · exact de_var 0
        refine da_cons ?_ ?_
        · exact de_int
        exact da_nil
      refine da_cons ?_ ?_
      · exact de_var 4
      exact da_nil
    exact da_nil
  exact de_var 2
set_option maxHeartbeats 0 in
theorem body_50 (C : Cn P w K mg base k f fd) {cdv : Value} {A : Around} {outer : List Env} {s : Shared} {H : Hp} {E : XK} (hr : Room k (A.deeper (envOfC "_law_low" (defScope (top 50)) s.heap.objs.size (f 50) cdv))) :
    DSs (cxOf CX0 P w K mg base N_50 "_law_low" (defScope (top 50)) (f 50) cdv A outer s H E).nox (defBody (top 50)) (b_50 (tab k)) := by
  have hu := hr.units
  unfold b_50
  refine dss_cons ?_ ?_
  · refine ds_par (i := 2) (j := 3) rfl nd_50 rfl rfl (by decide) rfl rfl ?_ (by rfl)
    refine da_cons ?_ ?_
    · refine de_callB cd_abs C.z_abs PyProof.Rows.boot_abs ?_
      refine da_cons ?_ ?_
      · exact de_var 0
      exact da_nil
    refine da_cons ?_ ?_
    · exact de_var 1
    exact da_nil
  refine dss_cons ?_ ?_
  · refine ds_while 1000000000 PassesOwn.never ?_ ?_
    · refine dt_cmp od_gt ?_ ?_
      · exact de_var 3
      exact de_int
    refine dss_one ?_
    refine ds_par (i := 2) (j := 3) rfl nd_50 rfl rfl (by decide) rfl rfl ?_ (by rfl)
    refine da_cons ?_ ?_
    · exact de_var 3
    refine da_cons ?_ ?_
    · refine de_op od_mod ?_ ?_
      · exact de_var 2
      exact de_var 3
    exact da_nil
  refine dss_one ?_
  refine ds_ret ?_
  refine de_tup ?_
  refine da_cons ?_ ?_
  · refine de_op od_fdiv ?_ ?_
    · exact de_var 0
    exact de_var 2
  refine da_cons ?_ ?_
  · refine de_op od_fdiv ?_ ?_
    · exact de_var 1
    exact de_var 2
  exact da_nil
set_option maxHeartbeats 0 in
theorem body_51 (C : Cn P w K mg base k f fd) {cdv : Value} {A : Around} {outer : List Env} {s : Shared} {H : Hp} {E : XK} (hr : Room k (A.deeper (envOfC "_law_half" (defScope (top 51)) s.heap.objs.size (f 51) cdv))) :
    DSs (cxOf CX0 P w K mg base N_51 "_law_half" (defScope (top 51)) (f 51) cdv A outer s H E).nox (defBody (top 51)) (b_51 (tab k)) := by
  have hu := hr.units
  unfold b_51
  refine dss_one ?_
  refine ds_ret ?_
  refine de_call C.o_50 hr C.q_50.m C.q_50.k C.q_50.d tab_len_50 ?_
  refine da_cons ?_ ?_
  · refine de_op od_add ?_ ?_
    · refine de_op od_mul ?_ ?_
      · refine de_ix ?_ ?_
        · exact de_var 0
        exact de_int
      refine de_ix ?_ ?_
      · exact de_var 1
      exact de_int
    refine de_op od_mul ?_ ?_
    · refine de_ix ?_ ?_
      · exact de_var 1
      exact de_int
    refine de_ix ?_ ?_
    · exact de_var 0
    exact de_int
  refine da_cons ?_ ?_
  · refine de_op od_mul ?_ ?_
    · refine de_op od_mul ?_ ?_
      · exact de_int
      refine de_ix ?_ ?_
      · exact de_var 0
      exact de_int
    refine de_ix ?_ ?_
    · exact de_var 1
    exact de_int
  exact da_nil
set_option maxHeartbeats 0 in
theorem body_52 (C : Cn P w K mg base k f fd) {cdv : Value} {A : Around} {outer : List Env} {s : Shared} {H : Hp} {E : XK} (hr : Room k (A.deeper (envOfC "_law_end" (defScope (top 52)) s.heap.objs.size (f 52) cdv))) :
    DSs (cxOf CX0 P w K mg base N_52 "_law_end" (defScope (top 52)) (f 52) cdv A outer s H E).nox (defBody (top 52)) (b_52 (tab k)) := by
  have hu := hr.units
  unfold b_52
  refine dss_cons ?_ ?_
  · refine ds_set (i := 2) nd_52 rfl (by first | exact Or.inl rfl | exact Or.inr rfl) ?_
    refine de_ix ?_ ?_
    · exact de_var 0
    exact de_int
  refine dss_cons ?_ ?_
  · refine ds_for PassesOwn.never rfl ?_ ?_ ?_
    · refine di_seq ?_
      exact de_var 0
    · exact dg_name (i := 3) nd_52 rfl (by first | exact Or.inl rfl | exact Or.inr rfl)
    refine dss_one ?_
    refine ds_if ?_ ?_ ?_
    · refine dt_cmp od_lt ?_ ?_
      · refine de_op od_mul ?_ ?_
        · exact de_var 1
        refine de_op od_sub ?_ ?_
        · refine de_op od_mul ?_ ?_
          · refine de_ix ?_ ?_
            · exact de_var 3
            exact de_int
          refine de_ix ?_ ?_
          · exact de_var 2
          exact de_int
        refine de_op od_mul ?_ ?_
        · refine de_ix ?_ ?_
          · exact de_var 2
          exact de_int
        refine de_ix ?_ ?_
        · exact de_var 3
        exact de_int
      exact de_int
    · refine dss_one ?_
      refine ds_set (i := 2) nd_52 rfl (by first | exact Or.inl rfl | exact Or.inr rfl) ?_
      exact de_var 3
    exact dss_nil
  refine dss_one ?_
  refine ds_ret ?_
  exact de_var 2
set_option maxHeartbeats 0 in
theorem body_53 (C : Cn P w K mg base k f fd) {cdv : Value} {A : Around} {outer : List Env} {s : Shared} {H : Hp} {E : XK} (hr : Room k (A.deeper (envOfC "_law_row" (defScope (top 53)) s.heap.objs.size (f 53) cdv))) :
    DSs (cxOf CX0 P w K mg base N_53 "_law_row" (defScope (top 53)) (f 53) cdv A outer s H E).nox (defBody (top 53)) (b_53 (tab k)) := by
  have hu := hr.units
  unfold b_53
  refine dss_cons ?_ ?_
  · refine ds_set (i := 2) nd_53 rfl (by first | exact Or.inl rfl | exact Or.inr rfl) ?_
    refine de_ref ?_
    refine da_cons ?_ ?_
    · refine de_tup ?_
      refine da_cons ?_ ?_
      · exact de_var 1
      refine da_cons ?_ ?_
      · exact de_int
      exact da_nil
    exact da_nil
  refine dss_cons ?_ ?_
  · refine ds_for PassesOwn.never rfl ?_ ?_ ?_
    · refine di_r1 rfl C.z_range ?_
      refine da_cons ?_ ?_
      · refine de_call C.o_47 hr C.q_47.m C.q_47.k C.q_47.d tab_len_47 ?_
        refine da_cons ?_ ?_
        · exact de_var 0
        refine da_cons ?_ ?_
        · exact de_int
        exact da_nil
      exact da_nil
    · exact dg_name (i := 3) nd_53 rfl (by first | exact Or.inl rfl | exact Or.inr rfl)
    refine dss_cons ?_ ?_
    · refine ds_set (i := 4) nd_53 rfl (by first | exact Or.inl rfl | exact Or.inr rfl) ?_
      refine de_call C.o_48 hr C.q_48.m C.q_48.k C.q_48.d tab_len_48 ?_
      refine da_cons ?_ ?_
      · exact de_var 0
      refine da_cons ?_ ?_
      · refine de_lst ?_
        refine da_cons ?_ ?_
        · exact de_int
        refine da_cons ?_ ?_
        · exact de_int
        refine da_cons ?_ ?_
        · exact de_int
        refine da_cons ?_ ?_
        · exact de_int
        exact da_nil
      exact da_nil
    refine dss_one ?_
    refine ds_expr ?_
    refine de_append ?_ ?_
    · exact de_var 2
    refine de_call C.o_50 hr C.q_50.m C.q_50.k C.q_50.d tab_len_50 ?_
    refine da_cons ?_ ?_
    · refine de_op od_sub ?_ ?_
      · refine de_op od_add ?_ ?_
        · refine de_op od_mul ?_ ?_
          · exact de_var 1
          exact de_var 4
        refine de_call C.o_47 hr C.q_47.m C.q_47.k C.q_47.d tab_len_47 ?_
        refine da_cons ?_ ?_
        · exact de_var 0
        refine da_cons ?_ ?_
        · exact de_int
        exact da_nil
      exact de_int
    refine da_cons ?_ ?_
    · exact de_var 4
    exact da_nil
  refine dss_one ?_
  refine ds_ret ?_
  refine de_callTy cd_tup C.z_tuple PyProof.Rows.boot_tuple ?_
  refine da_cons ?_ ?_
  · exact de_var 2
  exact da_nil
set_option maxHeartbeats 0 in
theorem body_54 (C : Cn P w K mg base k f fd) {cdv : Value} {A : Around} {outer : List Env} {s : Shared} {H : Hp} {E : XK} (hr : Room k (A.deeper (envOfC "_law_told" (defScope (top 54)) s.heap.objs.size (f 54) cdv))) :
    DSs (cxOf CX0 P w K mg base N_54 "_law_told" (defScope (top 54)) (f 54) cdv A outer s H E).nox (defBody (top 54)) (b_54 (tab k)) := by
  have hu := hr.units
  unfold b_54
  refine dss_cons ?_ ?_
  · refine ds_par (i := 4) (j := 5) rfl nd_54 rfl rfl (by decide) rfl rfl ?_ (by rfl)
    refine da_cons ?_ ?_
    · refine de_ref ?_
      refine da_cons ?_ ?_
      · refine de_tup ?_
        refine da_cons ?_ ?_
        · refine de_ix ?_ ?_
          · exact de_var 2
          exact de_var 1
        refine da_cons ?_ ?_
        · exact de_int
        exact da_nil
      exact da_nil
    refine da_cons ?_ ?_
    · refine de_ref ?_
      exact da_nil
    exact da_nil
  refine dss_cons ?_ ?_
  · refine ds_for PassesOwn.never rfl ?_ ?_ ?_
    · refine di_r1 rfl C.z_range ?_
      refine da_cons ?_ ?_
      · exact de_var 3
      exact da_nil
    · exact dg_name (i := 6) nd_54 rfl (by first | exact Or.inl rfl | exact Or.inr rfl)
    refine dss_cons ?_ ?_
    · refine ds_if ?_ ?_ ?_
      · refine dt_cmp (od_eq hu) ?_ ?_
        · refine de_call C.o_47 hr C.q_47.m C.q_47.k C.q_47.d tab_len_47 ?_
          refine da_cons ?_ ?_
          · exact de_var 0
          refine da_cons ?_ ?_
          · exact de_int
          exact da_nil
        exact de_int
      · refine dss_one ?_
        refine ds_ret ?_
        refine de_tup ?_
        refine da_cons ?_ ?_
        · refine de_callTy cd_tup C.z_tuple PyProof.Rows.boot_tuple ?_
          refine da_cons ?_ ?_
          · exact de_var 5
          exact da_nil
        refine da_cons ?_ ?_
        · exact de_non
        exact da_nil
      exact dss_nil
    refine dss_cons ?_ ?_
    · refine ds_expr ?_
      refine de_append ?_ ?_
      · exact de_var 5
      exact de_non
    refine dss_cons ?_ ?_
    · refine ds_if ?_ ?_ ?_
      · refine dt_cmp (od_eq hu) ?_ ?_
        · refine de_call C.o_47 hr C.q_47.m C.q_47.k C.q_47.d tab_len_47 ?_
          refine da_cons ?_ ?_
          · exact de_var 0
          refine da_cons ?_ ?_
          · exact de_int
          exact da_nil
        exact de_int
      · refine dss_one ?_
        refine ds_ret ?_
        refine de_tup ?_
        refine da_cons ?_ ?_
        · refine de_callTy cd_tup C.z_tuple PyProof.Rows.boot_tuple ?_
          refine da_cons ?_ ?_
          · exact de_var 5
          exact da_nil
        refine da_cons ?_ ?_
        · exact de_non
        exact da_nil
      exact dss_nil
    refine dss_cons ?_ ?_
    · refine ds_set (i := 7) nd_54 rfl (by first | exact Or.inl rfl | exact Or.inr rfl) ?_
      refine de_ref ?_
      exact da_nil
    refine dss_cons ?_ ?_
    · refine ds_for PassesOwn.never rfl ?_ ?_ ?_
      · refine di_r1 rfl C.z_range ?_
        refine da_cons ?_ ?_
        · refine de_callB cd_len C.z_len PySem.boot_len ?_
          refine da_cons ?_ ?_
          · exact de_var 2
          exact da_nil
        exact da_nil
      · exact dg_name (i := 8) nd_54 rfl (by first | exact Or.inl rfl | exact Or.inr rfl)
      refine dss_cons ?_ ?_
      · refine ds_set (i := 9) nd_54 rfl (by first | exact Or.inl rfl | exact Or.inr rfl) ?_
        refine de_call C.o_53 hr C.q_53.m C.q_53.k C.q_53.d tab_len_53 ?_
        refine da_cons ?_ ?_
        · exact de_var 0
        refine da_cons ?_ ?_
        · refine de_call C.o_48 hr C.q_48.m C.q_48.k C.q_48.d tab_len_48 ?_
          refine da_cons ?_ ?_
          · exact de_var 0
          refine da_cons ?_ ?_
          · exact de_var 2
          exact da_nil
        exact da_nil
      refine dss_one ?_
      refine ds_expr ?_
      refine de_append ?_ ?_
      · exact de_var 7
      refine de_ifx ?_ ?_ ?_
      · refine dt_cmp (od_eq hu) ?_ ?_
        · refine de_call C.o_47 hr C.q_47.m C.q_47.k C.q_47.d tab_len_47 ?_
          refine da_cons ?_ ?_
          · exact de_var 0
          refine da_cons ?_ ?_
          · exact de_int
          exact da_nil
        exact de_int
      · exact de_int
      exact de_var 9
    refine dss_cons ?_ ?_
    · refine ds_asg ?_ ?_
      · refine de_callTy cd_tup C.z_tuple PyProof.Rows.boot_tuple ?_
        refine da_cons ?_ ?_
        · exact de_var 4
        exact da_nil
      refine dg_sub ?_ ?_
      · exact de_var 7
      exact de_var 1
    refine dss_cons ?_ ?_
    · refine ds_expr ?_
      refine de_append ?_ ?_
      · exact de_var 5
      refine de_callTy cd_tup C.z_tuple PyProof.Rows.boot_tuple ?_
      refine da_cons ?_ ?_
      · exact de_var 7
      exact da_nil
    refine dss_cons ?_ ?_
    · refine ds_setcompLR rfl rfl (compOk_of (N := N_c13) (fr := [none, some 6]) (S := (defScope (top 54))) (XN := N_54) rfl rfl (by decide +kernel)) ?_ (fun _ _ _ _ _ => ⟨?_, ?_, ?_⟩) nd_54 (i := 10) rfl (by first | exact Or.inl rfl | exact Or.inr rfl)
      · refine dir_ref ?_
        exact de_var 7
      · exact dg_name (i := 0) nd_c13 rfl (by first | exact Or.inl rfl | exact Or.inr rfl)
      · refine difs_one ?_
        refine DW.dt ?_
        refine dw_and ?_ ?_
        · refine dt_cmp (od_neD hu) ?_ ?_
          · exact de_var 0
          exact de_int
        refine dw_and1 ?_
        refine dt_cmp od_gt ?_ ?_
        · refine de_callB cd_len C.z_len PySem.boot_len ?_
          refine da_cons ?_ ?_
          · exact de_var 0
          exact da_nil
        exact de_var 1
      refine de_ix ?_ ?_
      · exact de_var 0
      exact de_var 1
    refine dss_one ?_
    refine ds_expr ?_
    refine de_append ?_ ?_
    · exact de_var 4
    refine de_call C.o_51 hr C.q_51.m C.q_51.k C.q_51.d tab_len_51 ?_
    refine da_cons ?_ ?_
    · refine de_call C.o_52 hr C.q_52.m C.q_52.k C.q_52.d tab_len_52 ?_
      refine da_cons ?_ ?_
      · exact de_var 10
      refine da_cons ?_ ?_
      · exact de_int
      exact da_nil
    refine da_cons ?_ ?_
    · refine de_call C.o_52 hr C.q_52.m C.q_52.k C.q_52.d tab_len_52 ?_
      refine da_cons ?_ ?_
      · exact de_var 10
      refine da_cons ?_ ?_
      · refine de_un ud_neg ?_
        exact de_int
      exact da_nil
    exact da_nil
  refine dss_one ?_
  refine ds_ret ?_
  refine de_tup ?_
  refine da_cons ?_ ?_
  · refine de_callTy cd_tup C.z_tuple PyProof.Rows.boot_tuple ?_
    refine da_cons ?_ ?_
    · exact de_var 5
    exact da_nil
  refine da_cons ?_ ?_
  · refine de_ix ?_ ?_
    · exact de_var 4
    refine de_un ud_neg ?_
    exact de_int
  exact da_nil
set_option maxHeartbeats 0 in
theorem body_55 (C : Cn P w K mg base k f fd) {cdv : Value} {A : Around} {outer : List Env} {s : Shared} {H : Hp} {E : XK} (hr : Room k (A.deeper (envOfC "_law_near" (defScope (top 55)) s.heap.objs.size (f 55) cdv))) :
    DSs (cxOf CX0 P w K mg base N_55 "_law_near" (defScope (top 55)) (f 55) cdv A outer s H E).nox (defBody (top 55)) (b_55 (tab k)) := by
  have hu := hr.units
  unfold b_55
  refine dss_cons ?_ ?_
  · refine ds_set (i := 4) nd_55 rfl (by first | exact Or.inl rfl | exact Or.inr rfl) ?_
    refine de_callB cd_abs C.z_abs PyProof.Rows.boot_abs ?_
    refine da_cons ?_ ?_
    · refine de_op od_sub ?_ ?_
      · refine de_op od_mul ?_ ?_
        · refine de_ix ?_ ?_
          · exact de_var 0
          exact de_int
        refine de_ix ?_ ?_
        · exact de_var 1
        exact de_int
      refine de_op od_mul ?_ ?_
      · refine de_ix ?_ ?_
        · exact de_var 1
        exact de_int
      refine de_ix ?_ ?_
      · exact de_var 0
      exact de_int
    exact da_nil
  refine dss_cons ?_ ?_
  · refine ds_set (i := 5) nd_55 rfl (by first | exact Or.inl rfl | exact Or.inr rfl) ?_
    refine de_op od_mul ?_ ?_
    · refine de_op od_mul ?_ ?_
      · exact de_var 2
      refine de_ix ?_ ?_
      · exact de_var 0
      exact de_int
    refine de_ix ?_ ?_
    · exact de_var 1
    exact de_int
  refine dss_cons ?_ ?_
  · refine ds_for PassesOwn.never rfl ?_ ?_ ?_
    · refine di_r1 rfl C.z_range ?_
      refine da_cons ?_ ?_
      · exact de_var 3
      exact da_nil
    · exact dg_name (i := 6) nd_55 rfl (by first | exact Or.inl rfl | exact Or.inr rfl)
    refine dss_one ?_
    refine ds_set (i := 4) nd_55 rfl (by first | exact Or.inl rfl | exact Or.inr rfl) ?_
    refine de_op od_mul ?_ ?_
    · exact de_int
    exact de_var 4
  refine dss_one ?_
  refine ds_ret ?_
  refine de_cmp od_le ?_ ?_
  · exact de_var 4
  exact de_var 5
set_option maxHeartbeats 0 in
theorem body_56 (C : Cn P w K mg base k f fd) {cdv : Value} {A : Around} {outer : List Env} {s : Shared} {H : Hp} {E : XK} (hr : Room k (A.deeper (envOfC "_law_due" (defScope (top 56)) s.heap.objs.size (f 56) cdv))) :
    DSs (cxOf CX0 P w K mg base N_56 "_law_due" (defScope (top 56)) (f 56) cdv A outer s H E).nox (defBody (top 56)) (b_56 (tab k)) := by
  have hu := hr.units
  unfold b_56
  refine dss_cons ?_ ?_
  · refine ds_asg ?_ ?_
    · refine de_tup ?_
      refine da_cons ?_ ?_
      · refine de_callB (cd_minL hr.hd) C.z_min PyProof.Rows.boot_min ?_
        refine da_cons ?_ ?_
        · exact de_var 1
        exact da_nil
      refine da_cons ?_ ?_
      · refine de_callB (cd_maxL hr.hd) C.z_max PyProof.Rows.boot_max ?_
        refine da_cons ?_ ?_
        · exact de_var 1
        exact da_nil
      exact da_nil
    refine dg_tup rfl ?_
    refine dgs_cons ?_ ?_
    · exact dg_name (i := 3) nd_56 rfl (by first | exact Or.inl rfl | exact Or.inr rfl)
    refine dgs_cons ?_ ?_
    · exact dg_name (i := 4) nd_56 rfl (by first | exact Or.inl rfl | exact Or.inr rfl)
    exact dgs_nil
  refine dss_cons ?_ ?_
  · refine ds_for PassesOwn.never rfl ?_ ?_ ?_
    · refine di_seq ?_
      exact de_var 0
    · exact dg_name (i := 5) nd_56 rfl (by first | exact Or.inl rfl | exact Or.inr rfl)
    refine dss_cons ?_ ?_
    · refine ds_if ?_ ?_ ?_
      · refine dt_not ?_
        refine dt_chain od_le od_le ?_ ?_ ?_
        · refine de_op od_mul ?_ ?_
          · exact de_var 3
          refine de_ix ?_ ?_
          · exact de_var 5
          exact de_int
        · refine de_ix ?_ ?_
          · exact de_var 5
          exact de_int
        refine de_op od_mul ?_ ?_
        · exact de_var 4
        refine de_ix ?_ ?_
        · exact de_var 5
        exact de_int
      · refine dss_one ?_
        refine ds_ret ?_
        exact de_bl
      exact dss_nil
    refine dss_one ?_
    refine ds_if ?_ ?_ ?_
    · refine dt_not ?_
      refine dt_tru ?_
      refine de_callB (cd_all rfl) C.z_all PyProof.Rows.boot_all ?_
      refine da_cons ?_ ?_
      · refine de_comp rfl rfl (compOk_of (N := N_c14) (fr := [none, some 5, some 4, some 3, some 2]) (S := (defScope (top 56))) (XN := N_56) rfl rfl (by decide +kernel)) ?_ (fun _ _ _ _ _ => ⟨?_, ?_, ?_⟩)
        · refine di_seq ?_
          exact de_var 0
        · exact dg_name (i := 0) nd_c14 rfl (by first | exact Or.inl rfl | exact Or.inr rfl)
        · exact difs_nil
        refine de_call C.o_55 hr C.q_55.m C.q_55.k C.q_55.d tab_len_55 ?_
        refine da_cons ?_ ?_
        · exact de_var 1
        refine da_cons ?_ ?_
        · exact de_var 0
        refine da_cons ?_ ?_
        · refine de_op od_sub ?_ ?_
          · exact de_var 2
          exact de_var 3
        refine da_cons ?_ ?_
        · exact de_var 4
        exact da_nil
      exact da_nil
    · refine dss_one ?_
      refine ds_ret ?_
      exact de_bl
    exact dss_nil
  refine dss_one ?_
  refine ds_ret ?_
  exact de_bl
set_option maxHeartbeats 0 in
theorem body_57 (C : Cn P w K mg base k f fd) {cdv : Value} {A : Around} {outer : List Env} {s : Shared} {H : Hp} {E : XK} (hr : Room k (A.deeper (envOfC "_law_case" (defScope (top 57)) s.heap.objs.size (f 57) cdv))) :
    DSs (cxOf CX0 P w K mg base N_57 "_law_case" (defScope (top 57)) (f 57) cdv A outer s H E).nox (defBody (top 57)) (b_57 (tab k)) := by
  have hu := hr.units
  unfold b_57
  refine dss_cons ?_ ?_
  · refine ds_set (i := 1) nd_57 rfl (by first | exact Or.inl rfl | exact Or.inr rfl) ?_
    refine de_op od_add ?_ ?_
    · exact de_int
    refine de_call C.o_47 hr C.q_47.m C.q_47.k C.q_47.d tab_len_47 ?_
    refine da_cons ?_ ?_
    · exact de_var 0
    refine da_cons ?_ ?_
    · exact de_int
    exact da_nil
  refine dss_cons ?_ ?_
  · refine ds_set (i := 2) nd_57 rfl (by first | exact Or.inl rfl | exact Or.inr rfl) ?_
    refine de_call C.o_49 hr C.q_49.m C.q_49.k C.q_49.d tab_len_49 ?_
    refine da_cons ?_ ?_
    · exact de_var 0
    refine da_cons ?_ ?_
    · exact de_var 1
    exact da_nil
  refine dss_cons ?_ ?_
  · refine ds_set (i := 3) nd_57 rfl (by first | exact Or.inl rfl | exact Or.inr rfl) ?_
    refine de_op od_add ?_ ?_
    · exact de_int
    refine de_call C.o_47 hr C.q_47.m C.q_47.k C.q_47.d tab_len_47 ?_
    refine da_cons ?_ ?_
    · exact de_var 0
    refine da_cons ?_ ?_
    · exact de_int
    exact da_nil
  refine dss_cons ?_ ?_
  · refine ds_set (i := 4) nd_57 rfl (by first | exact Or.inl rfl | exact Or.inr rfl) (de_comp rfl rfl (compOk_of (N := N_c15) (fr := [none, some 0]) (S := (defScope (top 57))) (XN := N_57) rfl rfl (by decide +kernel)) ?_ (fun _ _ _ _ _ => ⟨?_, ?_, ?_⟩))
    · refine di_r1 rfl C.z_range ?_
      refine da_cons ?_ ?_
      · exact de_var 1
      exact da_nil
    · exact dg_name (i := 0) nd_c15 rfl (by first | exact Or.inl rfl | exact Or.inr rfl)
    · exact difs_nil
    refine de_call C.o_48 hr C.q_48.m C.q_48.k C.q_48.d tab_len_48 ?_
    refine da_cons ?_ ?_
    · exact de_var 1
    refine da_cons ?_ ?_
    · refine de_lst ?_
      refine da_cons ?_ ?_
      · refine de_un ud_neg ?_
        exact de_int
      refine da_cons ?_ ?_
      · refine de_un ud_neg ?_
        exact de_int
      refine da_cons ?_ ?_
      · exact de_int
      refine da_cons ?_ ?_
      · exact de_int
      refine da_cons ?_ ?_
      · exact de_int
      refine da_cons ?_ ?_
      · exact de_int
      refine da_cons ?_ ?_
      · exact de_int
      exact da_nil
    exact da_nil
  refine dss_cons ?_ ?_
  · refine ds_set (i := 5) nd_57 rfl (by first | exact Or.inl rfl | exact Or.inr rfl) ?_
    refine de_callTy cd_tup C.z_tuple PyProof.Rows.boot_tuple ?_
    refine da_cons ?_ ?_
    · refine de_comp rfl rfl (compOk_of (N := N_c16) (fr := [none, some 3]) (S := (defScope (top 57))) (XN := N_57) rfl rfl (by decide +kernel)) ?_ (fun _ _ _ _ _ => ⟨?_, ?_, ?_⟩)
      · refine di_seq ?_
        exact de_var 4
      · exact dg_name (i := 0) nd_c16 rfl (by first | exact Or.inl rfl | exact Or.inr rfl)
      · exact difs_nil
      refine de_tup ?_
      refine da_cons ?_ ?_
      · exact de_str
      refine da_cons ?_ ?_
      · exact de_var 0
      refine da_cons ?_ ?_
      · exact de_var 1
      exact da_nil
    exact da_nil
  refine dss_cons ?_ ?_
  · refine ds_set (i := 6) nd_57 rfl (by first | exact Or.inl rfl | exact Or.inr rfl) ?_
    refine de_ix ?_ ?_
    · refine de_call C.o_44 hr C.q_44.m C.q_44.k C.q_44.d tab_len_44 ?_
      refine da_cons ?_ ?_
      · exact de_var 2
      refine da_cons ?_ ?_
      · exact de_var 5
      exact da_nil
    exact de_int
  refine dss_cons ?_ ?_
  · refine ds_for PassesOwn.never rfl ?_ ?_ ?_
    · refine di_r1 rfl C.z_range ?_
      refine da_cons ?_ ?_
      · exact de_int
      exact da_nil
    · exact dg_name (i := 7) nd_57 rfl (by first | exact Or.inl rfl | exact Or.inr rfl)
    refine dss_cons ?_ ?_
    · refine ds_setcomp rfl rfl (compOk_of (N := N_c17) (fr := [none, some 0, some 4, some 3]) (S := (defScope (top 57))) (XN := N_57) rfl rfl (by decide +kernel)) ?_ (fun _ _ _ _ _ => ⟨?_, ?_, ?_⟩) nd_57 (i := 8) rfl (by first | exact Or.inl rfl | exact Or.inr rfl)
      · refine di_r1 rfl C.z_range ?_
        refine da_cons ?_ ?_
        · exact de_var 1
        exact da_nil
      · exact dg_name (i := 0) nd_c17 rfl (by first | exact Or.inl rfl | exact Or.inr rfl)
      · exact difs_nil
      refine de_call C.o_54 hr C.q_54.m C.q_54.k C.q_54.d tab_len_54 ?_
      refine da_cons ?_ ?_
      · exact de_var 1
      refine da_cons ?_ ?_
      · exact de_var 0
      refine da_cons ?_ ?_
      · exact de_var 2
      refine da_cons ?_ ?_
      · exact de_var 3
      exact da_nil
    refine dss_cons ?_ ?_
    · refine ds_set (i := 9) nd_57 rfl (by first | exact Or.inl rfl | exact Or.inr rfl) ?_
      refine de_tup ?_
      refine da_cons ?_ ?_
      · exact de_var 6
      refine da_cons ?_ ?_
      · refine de_callTy cd_tup C.z_tuple PyProof.Rows.boot_tuple ?_
        refine da_cons ?_ ?_
        · refine de_comp rfl rfl (compOk_of (N := N_c18) (fr := [none, none]) (S := (defScope (top 57))) (XN := N_57) rfl rfl (by decide +kernel)) ?_ (fun _ _ _ _ _ => ⟨?_, ?_, ?_⟩)
          · refine di_seq ?_
            exact de_var 8
          · refine dg_tup rfl ?_
            refine dgs_cons ?_ ?_
            · exact dg_name (i := 0) nd_c18 rfl (by first | exact Or.inl rfl | exact Or.inr rfl)
            refine dgs_cons ?_ ?_
            · exact dg_name (i := 1) nd_c18 rfl (by first | exact Or.inl rfl | exact Or.inr rfl)
            exact dgs_nil
          · exact difs_nil
          refine de_tup ?_
          refine da_cons ?_ ?_
          · exact de_var 0
          refine da_cons ?_ ?_
          · refine de_tup ?_
            exact da_nil
          refine da_cons ?_ ?_
          · refine de_tup ?_
            exact da_nil
          exact da_nil
        exact da_nil
      exact da_nil
    refine dss_cons ?_ ?_
    · refine ds_setcomp rfl rfl (compOk_of (N := N_c19) (fr := [none, none]) (S := (defScope (top 57))) (XN := N_57) rfl rfl (by decide +kernel)) ?_ (fun _ _ _ _ _ => ⟨?_, ?_, ?_⟩) nd_57 (i := 10) rfl (by first | exact Or.inl rfl | exact Or.inr rfl)
      · refine di_seq ?_
        exact de_var 8
      · refine dg_tup rfl ?_
        refine dgs_cons ?_ ?_
        · exact dg_name (i := 0) nd_c19 rfl (by first | exact Or.inl rfl | exact Or.inr rfl)
        refine dgs_cons ?_ ?_
        · exact dg_name (i := 1) nd_c19 rfl (by first | exact Or.inl rfl | exact Or.inr rfl)
        exact dgs_nil
      · refine difs_one ?_
        refine dt_cmp od_isnt ?_ ?_
        · exact de_var 1
        exact de_non
      exact de_var 1
    refine dss_one ?_
    refine ds_if ?_ ?_ ?_
    · refine dt_not ?_
      refine dt_tru ?_
      refine de_call C.o_58 hr C.q_58.m C.q_58.k C.q_58.d tab_len_58 ?_
      refine da_cons ?_ ?_
      · refine de_call C.o_29 hr C.q_29.m C.q_29.k C.q_29.d tab_len_29 ?_
        refine da_cons ?_ ?_
        · exact de_var 2
        refine da_cons ?_ ?_
        · exact de_var 5
        refine da_cons ?_ ?_
        · exact de_var 9
        exact da_nil
      refine da_cons ?_ ?_
      · refine de_call C.o_56 hr C.q_56.m C.q_56.k C.q_56.d tab_len_56 ?_
        refine da_cons ?_ ?_
        · exact de_var 10
        refine da_cons ?_ ?_
        · exact de_var 4
        refine da_cons ?_ ?_
        · exact de_var 3
        exact da_nil
      exact da_nil
    · refine dss_one ?_
      refine ds_ret ?_
      exact de_bl
    exact dss_nil
  refine dss_cons ?_ ?_
  · refine ds_set (i := 11) nd_57 rfl (by first | exact Or.inl rfl | exact Or.inr rfl) ?_
    refine de_lst ?_
    refine da_cons ?_ ?_
    · refine de_callTy cd_tup C.z_tuple PyProof.Rows.boot_tuple ?_
      refine da_cons ?_ ?_
      · refine de_op od_mul2 ?_ ?_
        · refine de_lst ?_
          refine da_cons ?_ ?_
          · refine de_tup ?_
            refine da_cons ?_ ?_
            · exact de_str
            refine da_cons ?_ ?_
            · refine de_tup ?_
              refine da_cons ?_ ?_
              · exact de_int
              refine da_cons ?_ ?_
              · exact de_non
              exact da_nil
            exact da_nil
          exact da_nil
        exact de_var 1
      exact da_nil
    refine da_cons ?_ ?_
    · refine de_callTy cd_tup C.z_tuple PyProof.Rows.boot_tuple ?_
      refine da_cons ?_ ?_
      · refine de_op od_mul2 ?_ ?_
        · refine de_lst ?_
          refine da_cons ?_ ?_
          · refine de_tup ?_
            refine da_cons ?_ ?_
            · exact de_str
            refine da_cons ?_ ?_
            · refine de_tup ?_
              refine da_cons ?_ ?_
              · refine de_tup ?_
                refine da_cons ?_ ?_
                · exact de_str
                exact da_nil
              exact da_nil
            exact da_nil
          exact da_nil
        exact de_var 1
      exact da_nil
    exact da_nil
  refine dss_cons ?_ ?_
  · refine ds_set (i := 12) nd_57 rfl (by first | exact Or.inl rfl | exact Or.inr rfl) ?_
    refine de_callTy cd_tup C.z_tuple PyProof.Rows.boot_tuple ?_
    refine da_cons ?_ ?_
    · refine de_comp rfl rfl (compOk_of (N := N_c20) (fr := [none, some 0]) (S := (defScope (top 57))) (XN := N_57) rfl rfl (by decide +kernel)) ?_ (fun _ _ _ _ _ => ⟨?_, ?_, ?_⟩)
      · refine di_r1 rfl C.z_range ?_
        refine da_cons ?_ ?_
        · exact de_var 1
        exact da_nil
      · exact dg_name (i := 0) nd_c20 rfl (by first | exact Or.inl rfl | exact Or.inr rfl)
      · exact difs_nil
      refine de_call C.o_47 hr C.q_47.m C.q_47.k C.q_47.d tab_len_47 ?_
      refine da_cons ?_ ?_
      · exact de_var 1
      refine da_cons ?_ ?_
      · exact de_int
      exact da_nil
    exact da_nil
  refine dss_cons ?_ ?_
  · refine ds_for PassesOwn.never rfl ?_ ?_ ?_
    · refine di_zipL rfl C.z_zip ?_ ?_
      · exact de_var 11
      refine de_lst ?_
      refine da_cons ?_ ?_
      · refine de_tup ?_
        refine da_cons ?_ ?_
        · exact de_non
        refine da_cons ?_ ?_
        · exact de_var 12
        exact da_nil
      refine da_cons ?_ ?_
      · refine de_tup ?_
        refine da_cons ?_ ?_
        · exact de_var 12
        exact da_nil
      exact da_nil
    · refine dg_tup rfl ?_
      refine dgs_cons ?_ ?_
      · exact dg_name (i := 5) nd_57 rfl (by first | exact Or.inl rfl | exact Or.inr rfl)
      refine dgs_cons ?_ ?_
      · exact dg_name (i := 13) nd_57 rfl (by first | exact Or.inl rfl | exact Or.inr rfl)
      exact dgs_nil
    refine dss_one ?_
    refine ds_if ?_ ?_ ?_
    · refine dt_cmp od_isnt ?_ ?_
      · refine de_call C.o_29 hr C.q_29.m C.q_29.k C.q_29.d tab_len_29 ?_
        refine da_cons ?_ ?_
        · exact de_var 2
        refine da_cons ?_ ?_
        · exact de_var 5
        refine da_cons ?_ ?_
        · refine de_tup ?_
          refine da_cons ?_ ?_
          · exact de_var 6
          refine da_cons ?_ ?_
          · refine de_op od_mul ?_ ?_
            · refine de_tup ?_
              refine da_cons ?_ ?_
              · refine de_tup ?_
                refine da_cons ?_ ?_
                · exact de_var 13
                refine da_cons ?_ ?_
                · refine de_tup ?_
                  exact da_nil
                refine da_cons ?_ ?_
                · refine de_tup ?_
                  exact da_nil
                exact da_nil
              exact da_nil
            exact de_var 1
          exact da_nil
        exact da_nil
      exact de_bl
    · refine dss_one ?_
      refine ds_ret ?_
      exact de_bl
    exact dss_nil
  refine dss_one ?_
  refine ds_ret ?_
  exact de_bl
set_option maxHeartbeats 0 in
theorem body_58 (C : Cn P w K mg base k f fd) {cdv : Value} {A : Around} {outer : List Env} {s : Shared} {H : Hp} {E : XK} (hr : Room k (A.deeper (envOfC "_law_truth" (defScope (top 58)) s.heap.objs.size (f 58) cdv))) :
    DSs (cxOf CX0 P w K mg base N_58 "_law_truth" (defScope (top 58)) (f 58) cdv A outer s H E).nox (defBody (top 58)) (b_58 (tab k)) := by
  have hu := hr.units
  unfold b_58
  refine dss_one ?_
  refine ds_ret ?_
  refine de_and ?_ ?_
  · refine de_isi .bool C.z_isinstance C.z_bool ?_
    exact de_var 0
  refine de_one ?_
  refine de_cmp (od_eq hu) ?_ ?_
  · exact de_var 0
  exact de_var 1
set_option maxHeartbeats 0 in
theorem body_59 (C : Cn P w K mg base k f fd) {cdv : Value} {A : Around} {outer : List Env} {s : Shared} {H : Hp} {E : XK} (hr : Room k (A.deeper (envOfC "law" (defScope (top 59)) s.heap.objs.size (f 59) cdv))) :
    DSs (cxOf CX0 P w K mg base N_59 "law" (defScope (top 59)) (f 59) cdv A outer s H E).nox (defBody (top 59)) (b_59 (tab k)) := by
  have hu := hr.units
  unfold b_59
  refine dss_one ?_
  refine ds_ret ?_
  refine de_callB (cd_all rfl) C.z_all PyProof.Rows.boot_all ?_
  refine da_cons ?_ ?_
  · refine de_comp rfl rfl (compOk_of (N := N_c21) (fr := [none, some 0]) (S := (defScope (top 59))) (XN := N_59) rfl rfl (by decide +kernel)) ?_ (fun _ _ _ _ _ => ⟨?_, ?_, ?_⟩)
    · refine di_r1 rfl C.z_range ?_
      refine da_cons ?_ ?_
      · refine de_callB (cd_max rfl) C.z_max PyProof.Rows.boot_max ?_
        refine da_cons ?_ ?_
        · exact de_int
        refine da_cons ?_ ?_
        · refine de_callB (cd_min rfl) C.z_min PyProof.Rows.boot_min ?_
          refine da_cons ?_ ?_
          · refine de_callB cd_len C.z_len PySem.boot_len ?_
            refine da_cons ?_ ?_
            · exact de_var 0
            exact da_nil
          refine da_cons ?_ ?_
          · exact de_int
          exact da_nil
        exact da_nil
      exact da_nil
    · exact dg_name (i := 0) nd_c21 rfl (by first | exact Or.inl rfl | exact Or.inr rfl)
    · exact difs_nil
    refine de_call C.o_57 hr C.q_57.m C.q_57.k C.q_57.d tab_len_57 ?_
    refine da_cons ?_ ?_
    · refine de_call C.o_46 hr C.q_46.m C.q_46.k C.q_46.d tab_len_46 ?_
      refine da_cons ?_ ?_
      · exact de_var 1
      refine da_cons ?_ ?_
      · exact de_var 0
      exact da_nil
    exact da_nil
  exact da_nil
end
end K61
namespace K61
open PySem L3 L2 Pd
theorem okH (k : Nat) : HandOk (tab (k + 1) 46) := hand_ok
theorem okT (k : Nat) : TakeOk (tab (k + 1) 47) := take_ok
theorem okP (k : Nat) : PickOk (tab (k + 2) 48) := pick_ok (okT k)
noncomputable def mansOf (h : Int) : List D :=
  [.tup [.str "once", .int h]] ++ ([0, 2, 9].map fun t => .tup [.str "twice", .int h, .int t]) ++ ([0, 2, 9].flatMap fun t => [1, 2, 3, 4].map fun m => .tup [.str "handed", .int h, .int t, .int m])
  ++ ([0, 1].flatMap fun a => [0, 1].flatMap fun b => [1, 2, 3, 4].map fun m => .tup [.str "signs", .int h, .int a, .int b, .int m])
noncomputable def chk (h : Int) (m : D) : Bool := (tab 57 35 [m] []).isSome && match tab 57 11 [m] [] with
  | some (.int j, _) => decide (j = h)
  | _ => false
set_option maxHeartbeats 0 in
theorem chk1 : (mansOf 1).all (chk 1) = true := by decide +kernel
set_option maxHeartbeats 0 in
theorem chk2 : (mansOf 2).all (chk 2) = true := by decide +kernel
set_option maxHeartbeats 0 in
theorem chk3 : (mansOf 3).all (chk 3) = true := by decide +kernel
set_option maxHeartbeats 0 in
theorem chk4 : (mansOf 4).all (chk 4) = true := by decide +kernel
set_option maxHeartbeats 0 in
theorem chk5 : (mansOf 5).all (chk 5) = true := by decide +kernel
theorem chk_of {h : Int} (h1 : 1 ≤ h) (h5 : h ≤ 5) {m : D} (hm : m ∈ mansOf h) : chk h m = true := by
  have : h = 1 ∨ h = 2 ∨ h = 3 ∨ h = 4 ∨ h = 5 := by omega
  rcases this with rfl | rfl | rfl | rfl | rfl
  · exact List.all_eq_true.mp chk1 m hm
  · exact List.all_eq_true.mp chk2 m hm
  · exact List.all_eq_true.mp chk3 m hm
  · exact List.all_eq_true.mp chk4 m hm
  · exact List.all_eq_true.mp chk5 m hm
theorem man_hands {h : Int} (h1 : 1 ≤ h) (h5 : h ≤ 5) {m : D} (hm : m ∈ mansOf h) (g : G) : tab 57 11 [m] g = some (.int h, g) := by
  have := chk_of h1 h5 hm
  unfold chk at this
  rw [Bool.and_eq_true] at this
  obtain ⟨_, this⟩ := this
  split at this
  · rename_i j gg e
    have : j = h := of_decide_eq_true this
    subst this
    exact pure_any e g
  · cases this
theorem man_boxes {h : Int} (h1 : 1 ≤ h) (h5 : h ≤ 5) {m : D} (hm : m ∈ mansOf h) : ∃ bx, noR 0 bx = true ∧ ∀ g : G, tab 57 35 [m] g = some (bx, g) := by
  have := chk_of h1 h5 hm
  unfold chk at this
  rw [Bool.and_eq_true] at this
  obtain ⟨this, _⟩ := this
  obtain ⟨⟨bx, gg⟩, e⟩ := Option.isSome_iff_exists.mp this
  exact ⟨bx, (pureFn_some e).2.2.1, fun g => pure_any e g⟩
noncomputable abbrev F2 := Int × Nat
noncomputable def fr (p : F2) : D := .tup [.int p.1, .int (p.2 : Int)]
noncomputable def lowS (t : Int) (b : Nat) : F2 := (t / ((Nat.gcd t.natAbs b : Nat) : Int), b / Nat.gcd t.natAbs b)
noncomputable def c7 : FT := fTest (fOp oNeD (fVar 1) (fC (.int 0)))
noncomputable def l7 : FS := fSeq (fAsg (fOp (iOp okMod (· % ·)) (fVar 0) (fVar 1)) (gN 2)) (fSeq (fAsg (fVar 1) (gN 0)) (fAsg (fVar 2) (gN 1)))
theorem c7_ev {a : Option D} {b : Nat} {o : Option D} {g : G} : c7 [a, some (.int (b : Nat)), o] g = some (!decide (b = 0), g) := by
  by_cases h : b = 0
  · subst h; simp [c7, eqD, flat, dep]
  · have : ¬ ((b : Int) = 0) := by omega
    simp [c7, eqD, flat, dep, h]
theorem l7_ev {a b : Nat} {o : Option D} {g : G} (h : 0 < b) : l7 [some (.int (a : Nat)), some (.int (b : Nat)), o] g = some (.nx, [some (.int (b : Nat)), some (.int ((a % b : Nat) : Int)), some (.int ((a % b : Nat) : Int))], g) := by
  have : okMod (a : Int) (b : Int) = true := okMod_of (by omega)
  simp [l7, this]
theorem wh7 {g : G} : ∀ (b a : Nat) (m : Nat) (o : Option D), b + 2 ≤ m → ∃ o', whL c7 l7 m [some (.int (a : Nat)), some (.int (b : Nat)), o] g = some (.nx, [some (.int ((Nat.gcd a b : Nat) : Int)), some (.int 0), o'], g) := by
  intro b
  induction b using Nat.strongRecOn with
  | ind b ih =>
    intro a m o hm
    obtain ⟨m', rfl⟩ : ∃ m', m = m' + 1 := ⟨m - 1, by omega⟩
    by_cases h : b = 0
    · subst h
      exact ⟨o, by simp only [whL, c7_ev]; simp⟩
    · have hb : 0 < b := by omega
      have hlt := Nat.mod_lt a hb
      obtain ⟨o', e⟩ := ih (a % b) hlt b m' (some (.int ((a % b : Nat) : Int))) (by omega)
      refine ⟨o', ?_⟩
      have eg : Nat.gcd a b = Nat.gcd b (a % b) := by rw [Nat.gcd_comm a b, Nat.gcd_rec b a, Nat.gcd_comm]
      rw [eg]
      simp only [whL, c7_ev, l7_ev hb, h, Option.bind_some]
      simpa using e
theorem ok7 {k : Nat} {g : G} {a b : Nat} (h : b < 900000000) : tab (k + 1) 7 [.int (a : Nat), .int (b : Nat)] g = some (.int ((Nat.gcd a b : Nat) : Int), g) := by
  obtain ⟨o', e⟩ := wh7 (g := []) b a 1000000000 none (by omega)
  refine pure_eq (by simp [noRs, noR]) (gx := []) ?_ (by simp [noR]) g
  have e' : fWh 1000000000 c7 l7 [some (.int (a : Nat)), some (.int (b : Nat)), none] [] = _ := e
  have b7 : b_7 (tab k) = fSeq (fWh 1000000000 c7 l7) (fRet (fVar 0)) := rfl
  refine ev_run (σ' := [some (.int ((Nat.gcd a b : Nat) : Int)), some (.int 0), o']) rfl ?_ rfl
  rw [b7]
  simp only [List.map_cons, List.map_nil, ev_fSeq]
  simp [e']
noncomputable def c50 : FT := fTest (fOp oGt (fVar 3) (fC (.int 0)))
noncomputable def l50 : FS := fPar 2 3 (fCons (fVar 3) (fCons (fOp (iOp okMod (· % ·)) (fVar 2) (fVar 3)) (fNil)))
theorem c50_ev {x y a : Option D} {b : Nat} {g : G} : c50 [x, y, a, some (.int (b : Nat))] g = some (!decide (b = 0), g) := by
  by_cases h : b = 0
  · subst h; simp [c50]
  · have : 0 < b := by omega
    simp [c50, h, this]
theorem l50_ev {x y : Option D} {a b : Nat} {g : G} (h : 0 < b) : l50 [x, y, some (.int (a : Nat)), some (.int (b : Nat))] g = some (.nx, [x, y, some (.int (b : Nat)), some (.int ((a % b : Nat) : Int))], g) := by
  have : okMod (a : Int) (b : Int) = true := okMod_of (by omega)
  simp [l50, this]
theorem wh50 {g : G} {x y : Option D} : ∀ (b a : Nat) (m : Nat), b + 2 ≤ m → whL c50 l50 m [x, y, some (.int (a : Nat)), some (.int (b : Nat))] g = some (.nx, [x, y, some (.int ((Nat.gcd a b : Nat) : Int)), some (.int 0)], g) := by
  intro b
  induction b using Nat.strongRecOn with
  | ind b ih =>
    intro a m hm
    obtain ⟨m', rfl⟩ : ∃ m', m = m' + 1 := ⟨m - 1, by omega⟩
    by_cases h : b = 0
    · subst h
      simp only [whL, c50_ev]; simp
    · have hb : 0 < b := by omega
      have hlt := Nat.mod_lt a hb
      have e := ih (a % b) hlt b m' (by omega)
      have eg : Nat.gcd a b = Nat.gcd b (a % b) := by rw [Nat.gcd_comm a b, Nat.gcd_rec b a, Nat.gcd_comm]
      rw [eg]
      simp only [whL, c50_ev, l50_ev hb, h, Option.bind_some]
      simpa using e
theorem abs_ev {t : Int} {g : G} : bAbs [.int t] g = some (.int (t.natAbs : Nat), g) := by
  have : (if t < 0 then -t else t) = (t.natAbs : Int) := by split <;> omega
  simp only [bAbs, this]
theorem gcd_le {t : Int} {b : Nat} (h : 0 < b) : 0 < Nat.gcd t.natAbs b ∧ Nat.gcd t.natAbs b ≤ b := ⟨Nat.gcd_pos_of_pos_right _ h, Nat.gcd_le_right _ h⟩
theorem ok6 {k : Nat} {g : G} {t : Int} {b : Nat} (h0 : 0 < b) (h : b < 900000000) : tab (k + 2) 6 [.int t, .int (b : Nat)] g = some (fr (lowS t b), g) := by
  refine pure_eq (by simp [noRs, noR]) (gx := []) ?_ (by simp [noR, noRs, fr]) g
  have e7 := ok7 (k := k) (g := []) (a := t.natAbs) h
  obtain ⟨g1, g2⟩ := gcd_le (t := t) h0
  generalize hg : Nat.gcd t.natAbs b = q at *
  have d1 : ∀ i : Int, okDiv i (q : Int) = true := fun i => okDiv_of (by omega) (by omega)
  refine ev_run (σ' := [some (.int t), some (.int (b : Nat)), some (.int (q : Nat))]) rfl ?_ rfl
  have ab : bAbs [.int t] [] = some (.int (t.natAbs : Nat), []) := abs_ev
  simp only [b_6, List.map_cons, List.map_nil]
  simp [ab, e7, d1, fr, lowS, hg]
theorem ok50 {k : Nat} {g : G} {t : Int} {b : Nat} (h0 : 0 < b) (h : b < 900000000) : tab (k + 1) 50 [.int t, .int (b : Nat)] g = some (fr (lowS t b), g) := by
  refine pure_eq (by simp [noRs, noR]) (gx := []) ?_ (by simp [noR, noRs, fr]) g
  have e := wh50 (g := []) (x := some (.int t)) (y := some (.int (b : Nat))) b t.natAbs 1000000000 (by omega)
  have e' : fWh 1000000000 c50 l50 [some (.int t), some (.int (b : Nat)), some (.int (t.natAbs : Nat)), some (.int (b : Nat))] [] = _ := e
  obtain ⟨g1, g2⟩ := gcd_le (t := t) h0
  generalize hg : Nat.gcd t.natAbs b = q at *
  have d1 : ∀ i : Int, okDiv i (q : Int) = true := fun i => okDiv_of (by omega) (by omega)
  have b50 : b_50 (tab k) = fSeq (fPar 2 3 (fCons (fCall bAbs (fCons (fVar 0) (fNil))) (fCons (fVar 1) (fNil)))) (fSeq (fWh 1000000000 c50 l50) (fRet (fMk mkTup (fCons (fOp (iOp okDiv (· / ·)) (fVar 0) (fVar 2)) (fCons (fOp (iOp okDiv (· / ·)) (fVar 1) (fVar 2)) (fNil)))))) := rfl
  have ab : bAbs [.int t] [] = some (.int (t.natAbs : Nat), []) := abs_ev
  refine ev_run (σ' := [some (.int t), some (.int (b : Nat)), some (.int (q : Nat)), some (.int 0)]) rfl ?_ rfl
  rw [b50]
  simp only [List.map_cons, List.map_nil, ev_fSeq]
  simp [ab, e', d1, fr, lowS, hg]
noncomputable def Dn (p : F2) : Prop := 0 < p.2 ∧ p.2 ≤ 8192
theorem at_0 {a b : D} : atI [a, b] 0 = some a := rfl
theorem at_1 {a b : D} : atI [a, b] 1 = some b := rfl
noncomputable def lt2 (p q : F2) : Bool := decide (p.1 * (q.2 : Int) < q.1 * (p.2 : Int))
noncomputable def half (p q : F2) : F2 := lowS (p.1 * (q.2 : Int) + q.1 * (p.2 : Int)) (2 * p.2 * q.2)
section
variable {k : Nat} {g : G} {p q : F2}
theorem mulN {i : Int} {b : Nat} (h : b ≤ 8192) : okMul i (b : Int) = true := okMul_r (by omega) (by omega)
theorem ok4 (hp : Dn p) (hq : Dn q) : tab (k + 1) 4 [fr p, fr q] g = some (.bl (lt2 p q), g) := by
  refine pure_eq (by simp [noRs, noR, fr]) (gx := []) ?_ (by simp [noR]) g
  exact ev_run (σ' := [some (fr p), some (fr q)]) rfl (by simp [b_4, fr, at_0, at_1, mulN hp.2, mulN hq.2, lt2]) rfl
theorem dd {a b : Nat} (h : a ≤ 8192) (h2 : b ≤ 8192) : 2 * a * b < 900000000 := by
  have : a * b ≤ 8192 * 8192 := Nat.mul_le_mul h h2
  rw [Nat.mul_assoc]; omega
theorem dp {a b : Nat} (h : 0 < a) (h2 : 0 < b) : 0 < 2 * a * b := by
  have : 0 < a * b := Nat.mul_pos h h2
  rw [Nat.mul_assoc]; omega
theorem ok5 (hp : Dn p) (hq : Dn q) : tab (k + 3) 5 [fr p, fr q] g = some (fr (half p q), g) := by
  refine pure_eq (by simp [noRs, noR, fr]) (gx := []) ?_ (by simp [noR, noRs, fr]) g
  have e6 := ok6 (k := k) (g := []) (t := p.1 * (q.2 : Int) + q.1 * (p.2 : Int)) (dp hp.1 hq.1) (dd hp.2 hq.2)
  have m2 : okMul 2 (p.2 : Int) = true := okMul_l (by decide) (by decide)
  have c : ((2 * p.2 * q.2 : Nat) : Int) = 2 * (p.2 : Int) * (q.2 : Int) := by simp
  rw [c] at e6
  refine ev_run (σ' := [some (fr p), some (fr q)]) rfl ?_ rfl
  have fp : fr p = .tup [.int p.1, .int (p.2 : Int)] := rfl
  have fq : fr q = .tup [.int q.1, .int (q.2 : Int)] := rfl
  simp only [b_5, List.map_cons, List.map_nil]
  simp [fp, fq, at_0, at_1, mulN hp.2, mulN hq.2, m2, e6, half]
end
noncomputable def mn : F2 → List F2 → F2
  | l, [] => l
  | l, f :: r => mn (if lt2 f l = true then f else l) r
noncomputable def mx : F2 → List F2 → F2
  | h, [] => h
  | h, f :: r => mx (if lt2 h f = true then f else h) r
theorem mn_mem : ∀ (fs : List F2) (l : F2), mn l fs = l ∨ mn l fs ∈ fs
  | [], l => .inl rfl
  | f :: r, l => by
    unfold mn
    rcases mn_mem r (if lt2 f l = true then f else l) with h | h
    · rw [h]; split <;> simp
    · exact .inr (by simp [h])
theorem mx_mem : ∀ (fs : List F2) (l : F2), mx l fs = l ∨ mx l fs ∈ fs
  | [], l => .inl rfl
  | f :: r, l => by
    unfold mx
    rcases mx_mem r (if lt2 l f = true then f else l) with h | h
    · rw [h]; split <;> simp
    · exact .inr (by simp [h])
noncomputable def mid (f : F2) (r : List F2) : F2 := half (mn f (f :: r)) (mx f (f :: r))
noncomputable def l3 (k : Nat) : FS := fSeq (fIf (fTru (fCall (tab k 4) (fCons (fVar 3) (fCons (fVar 1) (fNil))))) (fAsg (fVar 3) (gN 1)) (fSkip)) (fIf (fTru (fCall (tab k 4) (fCons (fVar 2) (fCons (fVar 3) (fNil))))) (fAsg (fVar 3) (gN 2)) (fSkip))
section
variable {k : Nat} {g : G} {x : Option D}
theorem l3_ev {l h f : F2} (hl : Dn l) (hh : Dn h) (hf : Dn f) : l3 (k + 1) [x, some (fr l), some (fr h), some (fr f)] g = some (.nx, [x, some (fr (if lt2 f l = true then f else l)), some (fr (if lt2 h f = true then f else h)), some (fr f)], g) := by
  have e1 := ok4 (k := k) (g := g) hf hl
  have e2 := ok4 (k := k) (g := g) hh hf
  cases h1 : lt2 f l <;> cases h2 : lt2 h f <;> simp [l3, e1, e2, h1, h2]
theorem dn_if {l f : F2} {c : Prop} [Decidable c] (hl : Dn l) (hf : Dn f) : Dn (if c then f else l) := by split <;> assumption
theorem for3 : ∀ (fs : List F2) (l h : F2) (o : Option D), Dn l → Dn h → (∀ f ∈ fs, Dn f) → ∃ o', forL (gN 3) (l3 (k + 1)) (fs.map fr) [x, some (fr l), some (fr h), o] g = some (.nx, [x, some (fr (mn l fs)), some (fr (mx h fs)), o'], g)
  | [], l, h, o, _, _, _ => ⟨o, rfl⟩
  | f :: fs, l, h, o, hl, hh, hf => by
    have f0 := hf f (by simp)
    obtain ⟨o', e⟩ := for3 fs (if lt2 f l = true then f else l) (if lt2 h f = true then f else h) (some (fr f)) (dn_if hl f0) (dn_if hh f0) fun y hy => hf y (by simp [hy])
    exact ⟨o', by simp only [List.map_cons, forL, mn, mx]; simp [l3_ev hl hh f0, e]⟩
theorem dn_mn {fs : List F2} {l : F2} (hl : Dn l) (hf : ∀ f ∈ fs, Dn f) : Dn (mn l fs) := by
  rcases mn_mem fs l with h | h
  · rw [h]; exact hl
  · exact hf _ h
theorem dn_mx {fs : List F2} {l : F2} (hl : Dn l) (hf : ∀ f ∈ fs, Dn f) : Dn (mx l fs) := by
  rcases mx_mem fs l with h | h
  · rw [h]; exact hl
  · exact hf _ h
theorem nr_fr {n : Nat} (fs : List F2) : noRs n (fs.map fr) = true := noRs_of fun x hx => by
  simp only [List.mem_map] at hx
  obtain ⟨i, _, rfl⟩ := hx
  simp [fr, noR, noRs]
theorem at_c {x : D} {xs : List D} : atI (x :: xs) 0 = some x := by
  have h : (0 : Int) < ((x :: xs).length : Int) := by rw [List.length_cons]; omega
  unfold atI ixN
  rw [if_pos (Int.le_refl 0), if_pos h]
  rfl
theorem ok3 {f : F2} {r : List F2} (hf : ∀ y ∈ f :: r, Dn y) : tab (k + 4) 3 [.lst ((f :: r).map fr)] g = some (fr (mid f r), g) := by
  have f0 := hf f (by simp)
  refine pure_eq (by simp [noRs, noR, nr_fr, fr]) (gx := []) ?_ (by simp [noR, noRs, fr]) g
  obtain ⟨o', e⟩ := for3 (k := k + 2) (g := []) (x := some (.lst ((f :: r).map fr))) (f :: r) f f none f0 f0 hf
  have e5 := ok5 (k := k) (g := []) (dn_mn f0 hf) (dn_mx f0 hf)
  have ha : atI ((f :: r).map fr) 0 = some (fr f) := at_c
  have b3 : b_3 (tab (k + 3)) = fSeq (fAsg (fOp oIx (fVar 0) (fC (.int 0))) (gN 1)) (fSeq (fAsg (fOp oIx (fVar 0) (fC (.int 0))) (gN 2)) (fSeq (fFor (iSeq (fVar 0)) (gN 3) (l3 (k + 3))) (fRet (fCall (tab (k + 3) 5) (fCons (fVar 1) (fCons (fVar 2) (fNil))))))) := rfl
  refine ev_run (σ' := [some (.lst ((f :: r).map fr)), some (fr (mn f (f :: r))), some (fr (mx f (f :: r))), o']) rfl ?_ rfl
  unfold mid
  generalize half (mn f (f :: r)) (mx f (f :: r)) = z at *
  generalize mn f (f :: r) = z1 at *
  generalize mx f (f :: r) = z2 at *
  generalize (f :: r).map fr = fs at *
  rw [b3]
  simp only [List.map_cons, List.map_nil, ev_fSeq]
  simp [ha, e, e5]
end
end K61
namespace K61
open PySem L3 L2 Pd
noncomputable def OkE (E : Nat) (p : F2) : Prop := 0 < p.2 ∧ p.2 ∣ 2 ^ E ∧ p.1.natAbs ≤ 1000000000 * p.2
theorem OkE.mono {E E' : Nat} {p : F2} (h : OkE E p) (he : E ≤ E') : OkE E' p := ⟨h.1, Nat.dvd_trans h.2.1 (Nat.pow_dvd_pow 2 he), h.2.2⟩
theorem OkE.dn {E : Nat} {p : F2} (h : OkE E p) (he : E ≤ 13) : Dn p := by
  refine ⟨h.1, Nat.le_trans (Nat.le_of_dvd (Nat.two_pow_pos E) h.2.1) ?_⟩
  exact Nat.le_trans (Nat.pow_le_pow_right (by decide) he) (by decide)
theorem low_ok {E : Nat} {t : Int} {b : Nat} (h0 : 0 < b) (h1 : b ∣ 2 ^ E * t.natAbs) (h2 : t.natAbs ≤ 1000000000 * b) : OkE E (lowS t b) := by
  have g0 : 0 < Nat.gcd t.natAbs b := Nat.gcd_pos_of_pos_right _ h0
  have hb : Nat.gcd t.natAbs b ∣ b := Nat.gcd_dvd_right _ _
  have ht : Nat.gcd t.natAbs b ∣ t.natAbs := Nat.gcd_dvd_left _ _
  have h3 : b ∣ 2 ^ E * Nat.gcd t.natAbs b := by
    rw [← Nat.gcd_mul_left]
    exact Nat.dvd_gcd h1 (Nat.dvd_mul_left _ _)
  have hti : ((Nat.gcd t.natAbs b : Nat) : Int) ∣ t := Int.ofNat_dvd_left.mpr ht
  unfold lowS
  generalize Nat.gcd t.natAbs b = q at *
  obtain ⟨b', rfl⟩ := hb
  obtain ⟨t', rfl⟩ := hti
  have e1 : q * b' / q = b' := Nat.mul_div_cancel_left _ g0
  have e2 : ((q : Int) * t') / (q : Int) = t' := Int.mul_ediv_cancel_left _ (by omega)
  rw [e1, e2]
  have hb0 : 0 < b' := by
    rcases Nat.eq_zero_or_pos b' with rfl | h
    · simp at h0
    · exact h
  refine ⟨hb0, ?_, ?_⟩
  · obtain ⟨c, hc⟩ := h3
    refine ⟨c, ?_⟩
    apply Nat.eq_of_mul_eq_mul_left g0
    rw [Nat.mul_comm q (2 ^ E), hc]
    exact Nat.mul_assoc _ _ _
  · rw [Int.natAbs_mul, Int.natAbs_natCast] at h2
    apply Nat.le_of_mul_le_mul_left _ g0
    rw [show q * (1000000000 * b') = 1000000000 * (q * b') from Nat.mul_left_comm _ _ _]
    exact h2
theorem half_ok {E : Nat} {p q : F2} (hp : OkE E p) (hq : OkE E q) : OkE (E + 1) (half p q) := by
  obtain ⟨p0, ⟨u, hu⟩, p2⟩ := hp
  obtain ⟨q0, ⟨v, hv⟩, q2⟩ := hq
  refine low_ok (dp p0 q0) ?_ ?_
  · have key : ((2 ^ (E + 1) : Nat) : Int) * (p.1 * (q.2 : Int) + q.1 * (p.2 : Int)) = ((2 * p.2 * q.2 : Nat) : Int) * ((u : Int) * p.1 + (v : Int) * q.1) := by
      have hu' : ((2 ^ E : Nat) : Int) = (p.2 : Int) * (u : Int) := by rw [hu]; simp
      have hv' : ((2 ^ E : Nat) : Int) = (q.2 : Int) * (v : Int) := by rw [hv]; simp
      rw [Nat.pow_succ, Int.natCast_mul, Int.natCast_mul, Int.natCast_mul, Int.mul_add]
      have a1 : ((2 ^ E : Nat) : Int) * ((2 : Nat) : Int) * (p.1 * (q.2 : Int)) = ((2 : Nat) : Int) * (p.2 : Int) * (q.2 : Int) * ((u : Int) * p.1) := by
        rw [hu']; ac_rfl
      have a2 : ((2 ^ E : Nat) : Int) * ((2 : Nat) : Int) * (q.1 * (p.2 : Int)) = ((2 : Nat) : Int) * (p.2 : Int) * (q.2 : Int) * ((v : Int) * q.1) := by
        rw [hv']; ac_rfl
      rw [a1, a2, Int.mul_add]
    have := congrArg Int.natAbs key
    rw [Int.natAbs_mul, Int.natAbs_mul, Int.natAbs_natCast, Int.natAbs_natCast] at this
    exact ⟨_, this⟩
  · have h1 : (p.1 * (q.2 : Int)).natAbs ≤ 1000000000 * (p.2 * q.2) := by
      rw [Int.natAbs_mul, Int.natAbs_natCast, ← Nat.mul_assoc]
      exact Nat.mul_le_mul_right _ p2
    have h2 : (q.1 * (p.2 : Int)).natAbs ≤ 1000000000 * (p.2 * q.2) := by
      rw [Int.natAbs_mul, Int.natAbs_natCast, Nat.mul_comm p.2 q.2, ← Nat.mul_assoc]
      exact Nat.mul_le_mul_right _ q2
    have h3 := Int.natAbs_add_le (p.1 * (q.2 : Int)) (q.1 * (p.2 : Int))
    have h4 : 1000000000 * (2 * p.2 * q.2) = 1000000000 * (p.2 * q.2) + 1000000000 * (p.2 * q.2) := by
      rw [Nat.mul_assoc 2, ← Nat.mul_add, Nat.two_mul]
    rw [h4]
    omega
theorem mid_ok {E : Nat} {f : F2} {r : List F2} (h : ∀ y ∈ f :: r, OkE E y) : OkE (E + 1) (mid f r) := by
  refine half_ok ?_ ?_
  · rcases mn_mem (f :: r) f with e | e
    · rw [e]; exact h f (by simp)
    · exact h _ e
  · rcases mx_mem (f :: r) f with e | e
    · rw [e]; exact h f (by simp)
    · exact h _ e
noncomputable abbrev P := Option (List F2)
noncomputable def enc : P → D
  | none => .int 0
  | some fs => .tup (fs.map fr)
noncomputable def encS (st : List P) : D := .tup (st.map enc)
noncomputable def drp (own : Int) : Nat → List P → List P
  | _, [] => []
  | i, x :: r => if (i : Int) = own then drp own (i + 1) r else x :: drp own (i + 1) r
theorem drp_c {own : Int} {i : Nat} {x : P} {r : List P} : drp own i (x :: r) = if (i : Int) = own then drp own (i + 1) r else x :: drp own (i + 1) r := by rw [drp]
theorem drp_len (own : Int) : ∀ (st : List P) (i : Nat), (drp own i st).length ≤ st.length
  | [], _ => Nat.le_refl _
  | x :: r, i => by
    have := drp_len own r (i + 1)
    rw [drp_c]
    split <;> simp <;> omega
noncomputable def pick (c : Nat) (fs : List F2) : Option F2 := if c + 1 ≤ fs.length then fs[c]? else none
noncomputable def oth (own : Int) (c : Nat) (st : List P) : List F2 := ((drp own 0 st).filterMap id).filterMap (pick c)
theorem oth_len {own : Int} {c : Nat} {st : List P} : (oth own c st).length ≤ st.length := Nat.le_trans (List.length_filterMap_le _ _) (Nat.le_trans (List.length_filterMap_le _ _) (drp_len own st 0))
noncomputable def tf (fs : List F2) : D := .tup (fs.map fr)
theorem comp_drp (own : Int) (g : G) : ∀ (st : List P) (i : Nat) (o0 o1 : Option D), compL (gT 2 (gConss (gN 0) (gConss (gN 1) gNils))) (fAnd (fTest (fOp oNeD (fVar 0) (fVar 2))) (fTru (fIsi .tuple (fVar 1)))) (fVar 1) (((st.map enc).zipIdx i).map fun p => D.tup [.int (p.2 : Nat), p.1]) [o0, o1, some (.int own)] g = some (((drp own i st).filterMap id).map tf, g)
  | [], i, o0, o1 => rfl
  | x :: r, i, o0, o1 => by
    have := comp_drp own g r (i + 1) (some (.int i)) (some (enc x))
    by_cases h : (i : Int) = own
    · rw [h] at this
      simp [compL, drp_c, this, h, eqD, flat, dep]
    · cases x with
      | none =>
        simp only [enc] at this
        simp [compL, drp_c, enc, isI, this, h, eqD, flat, dep]
      | some fs =>
        simp only [enc] at this
        simp [compL, drp_c, enc, isI, this, h, eqD, flat, dep, tf]
theorem comp_pick (c : Nat) (g : G) : ∀ (fss : List (List F2)) (o : Option D), compL (gN 0) (fTest (fOp oGe (fCall bLen (fCons (fVar 0) (fNil))) (fVar 1))) (fOp oIx (fVar 0) (fOp (iOp okAny (· - ·)) (fVar 1) (fC (.int 1)))) (fss.map tf) [o, some (.int ((c : Int) + 1))] g = some ((fss.filterMap (pick c)).map fr, g)
  | [], o => rfl
  | fs :: fss, o => by
    have := comp_pick c g fss (some (tf fs))
    simp only [tf] at this
    by_cases h : c + 1 ≤ fs.length
    · have h' : (c : Int) + 1 ≤ (fs.length : Int) := by omega
      have hc : c < fs.length := by omega
      have e : fs[c]? = some fs[c] := List.getElem?_eq_getElem hc
      have ha : atI (fs.map fr) (c : Int) = some (fr fs[c]) := at_nat (by rw [List.getElem?_map, e]; rfl)
      have e1 : (c : Int) + 1 - 1 = c := by omega
      have hp : pick c fs = some fs[c] := by unfold pick; rw [if_pos h, e]
      rw [List.filterMap_cons_some hp]
      simp [compL, tf, this, h', e1, ha]
    · have h' : ¬ (c : Int) + 1 ≤ (fs.length : Int) := by omega
      have hp : pick c fs = none := by unfold pick; rw [if_neg h]
      rw [List.filterMap_cons_none hp]
      simp [compL, tf, this, h']
theorem nr_st {n : Nat} (st : List P) : noRs n (st.map enc) = true := noRs_of fun x hx => by
  simp only [List.mem_map] at hx
  obtain ⟨p, _, rfl⟩ := hx
  cases p <;> simp [enc, noR, nr_fr]
theorem ok2 {k : Nat} {g : G} {own : Int} {c : Nat} {st : List P} (hl : st.length ≤ 100) : tab (k + 1) 2 [.int own, .int ((c : Int) + 1), encS st] g = some (.lst ((oth own c st).map fr), g) := by
  refine pure_eq (by simp [noRs, noR, encS, nr_st]) (gx := []) ?_ (by simp [noR, nr_fr]) g
  have c1 := comp_drp own [] st 0 none none
  have c2 := comp_pick c [] ((drp own 0 st).filterMap id) none
  have hz : szOk (enumD (st.map enc)).length = true := sz_of (by simp [enumD]; omega)
  have hz2 : szOk ((drp own 0 st).filterMap id).length = true := sz_of (by have := drp_len own st 0; have := List.length_filterMap_le id (drp own 0 st); omega)
  have sb : ∀ a b c d : Option D, subS [none, none, some 0] [a, b, c, d] = [none, none, a] := fun _ _ _ _ => rfl
  have sb2 : ∀ a b c d : Option D, subS [none, some 1] [a, b, c, d] = [none, b] := fun _ _ _ _ => rfl
  have ee : enumD (st.map enc) = ((st.map enc).zipIdx 0).map fun p => D.tup [.int (p.2 : Nat), p.1] := rfl
  refine ev_run (σ' := [some (.int own), some (.int ((c : Int) + 1)), some (encS st), some (.lst (((drp own 0 st).filterMap id).map tf))]) rfl ?_ rfl
  rw [ee] at hz
  unfold oth
  generalize hq : ((st.map enc).zipIdx 0).map (fun p => D.tup [.int (p.2 : Nat), p.1]) = en at *
  generalize (drp own 0 st).filterMap id = fss at *
  generalize hr : fss.filterMap (pick c) = rs at *
  simp [b_2, encS, ee, hz, hz2, sb, sb2, c1, c2]
end K61
namespace K61
open PySem L3 L2 Pd
theorem oth_mem2 {own : Int} {c : Nat} {st : List P} {f : F2} (h : f ∈ oth own c st) : ∃ fs, some fs ∈ drp own 0 st ∧ f ∈ fs := by
  unfold oth at h
  rw [List.mem_filterMap] at h
  obtain ⟨fs, h1, h2⟩ := h
  rw [List.mem_filterMap] at h1
  obtain ⟨o, h3, h4⟩ := h1
  simp at h4
  subst h4
  refine ⟨fs, h3, ?_⟩
  unfold pick at h2
  split at h2
  · exact List.mem_of_getElem? h2
  · cases h2
noncomputable def StOk (own : Int) (st : List P) : Prop := st.length ≤ 9 ∧ ∀ fs, some fs ∈ drp own 0 st → ∀ f ∈ fs, OkE 6 f
noncomputable def Gd (ns : List F2) : Prop := ns ≠ [] ∧ ns.length ≤ 7 ∧ ∀ p ∈ ns, OkE (5 + ns.length) p
noncomputable def la (ns : List F2) : F2 := ns.getLastD (0, 1)
noncomputable def nx (own : Int) (ns : List F2) (st : List P) : F2 := mid (la ns) (oth own (ns.length - 1) st)
noncomputable def grow (own : Int) : List F2 → List (List P) → List F2
  | ns, [] => ns
  | ns, st :: r => grow own (ns ++ [nx own ns st]) r
theorem grow_app {own : Int} {st : List P} : ∀ (sts : List (List P)) (ns : List F2), grow own ns (sts ++ [st]) = grow own ns sts ++ [nx own (grow own ns sts) st]
  | [], ns => rfl
  | s :: r, ns => by simp only [List.cons_append, grow]; exact grow_app r _
theorem grow_len {own : Int} : ∀ (sts : List (List P)) (ns : List F2), (grow own ns sts).length = ns.length + sts.length
  | [], ns => rfl
  | s :: r, ns => by simp only [grow]; rw [grow_len r]; simp; omega
theorem la_mem {ns : List F2} (h : ns ≠ []) : la ns ∈ ns := by
  unfold la
  rw [List.getLastD_eq_getLast?, List.getLast?_eq_some_getLast h]
  exact List.getLast_mem h
theorem at_la {ns : List F2} (h : ns ≠ []) : atI (ns.map fr) (-1) = some (fr (la ns)) := by
  have h0 : 0 < ns.length := List.length_pos_iff.mpr h
  have h1 : ¬ ((0 : Int) ≤ -1) := by omega
  have h2 : -(((ns.map fr).length : Nat) : Int) ≤ -1 := by simp; omega
  have h3 : (-1 + (((ns.map fr).length : Nat) : Int)).toNat = ns.length - 1 := by simp; omega
  unfold atI ixN
  rw [if_neg h1, if_pos h2, h3]
  simp only [Option.bind_some]
  unfold la
  rw [List.getElem?_map, List.getLastD_eq_getLast?, List.getLast?_eq_getElem?, List.getElem?_eq_getElem (by omega)]
  rfl
theorem nx_in {own : Int} {ns : List F2} {st : List P} (hg : Gd ns) (hs : StOk own st) : ∀ y ∈ la ns :: oth own (ns.length - 1) st, OkE (5 + ns.length) y := by
  intro y hy
  have h0 : 0 < ns.length := List.length_pos_iff.mpr hg.1
  rcases List.mem_cons.mp hy with rfl | hy
  · exact hg.2.2 _ (la_mem hg.1)
  · obtain ⟨fs, h1, h2⟩ := oth_mem2 hy
    exact (hs.2 fs h1 y h2).mono (by omega)
theorem nx_dn {own : Int} {ns : List F2} {st : List P} (hg : Gd ns) (hs : StOk own st) : ∀ y ∈ la ns :: oth own (ns.length - 1) st, Dn y := fun y hy => (nx_in hg hs y hy).dn (by have := hg.2.1; omega)
theorem gd_step {own : Int} {ns : List F2} {st : List P} (hg : Gd ns) (hs : StOk own st) (hl : ns.length ≤ 6) : Gd (ns ++ [nx own ns st]) := by
  refine ⟨by simp, by simp; omega, fun p hp => ?_⟩
  rw [List.length_append, List.length_singleton]
  rcases List.mem_append.mp hp with hp | hp
  · exact (hg.2.2 p hp).mono (by omega)
  · simp at hp
    subst hp
    exact mid_ok (nx_in hg hs)
theorem gd_grow {own : Int} : ∀ (sts : List (List P)) (ns : List F2), Gd ns → (∀ st ∈ sts, StOk own st) → ns.length + sts.length ≤ 7 → Gd (grow own ns sts)
  | [], ns, h, _, _ => h
  | s :: r, ns, h, hs, hl => by
    simp at hl
    exact gd_grow r _ (gd_step h (hs s (by simp)) (by omega)) (fun st hm => hs st (by simp [hm])) (by simp; omega)
noncomputable def l1 (k : Nat) : FS := fDrop (fApp (fVar 4) (fCall (tab k 3) (fCons (fOp oAdd (fMk mkLst (fCons (fOp oIx (fVar 4) (fUn uNeg (fC (.int 1)))) (fNil))) (fCall (tab k 2) (fCons (fVar 0) (fCons (fCall bLen (fCons (fVar 4) (fNil))) (fCons (fVar 5) (fNil)))))) (fNil))))
section
variable {k : Nat} {own : Int} {a b t : Option D}
theorem l1_ev {ns : List F2} {st : List P} (hg : Gd ns) (hs : StOk own st) : l1 (k + 4) [some (.int own), a, b, t, some (.ref 0), some (encS st)] [ns.map fr] = some (.nx, [some (.int own), a, b, t, some (.ref 0), some (encS st)], [(ns ++ [nx own ns st]).map fr]) := by
  have h0 : 0 < ns.length := List.length_pos_iff.mpr hg.1
  have h7 := hg.2.1
  have e2 := ok2 (k := k + 3) (g := [ns.map fr]) (own := own) (c := ns.length - 1) (st := st) (by have := hs.1; omega)
  rw [show ((ns.length - 1 : Nat) : Int) + 1 = (ns.length : Int) by omega] at e2
  have e3 := ok3 (k := k) (g := [ns.map fr]) (nx_dn hg hs)
  have ha := at_la hg.1
  have hol := oth_len (own := own) (c := ns.length - 1) (st := st)
  have z1 : szOk (1 + (oth own (ns.length - 1) st).length) = true := sz_of (by have := hs.1; omega)
  have z2 : szOk (ns.length + 1) = true := sz_of (by omega)
  rw [List.map_cons] at e3
  have hn : nx own ns st = mid (la ns) (oth own (ns.length - 1) st) := rfl
  rw [← hn] at e3
  generalize nx own ns st = z at *
  generalize oth own (ns.length - 1) st = os at *
  simp only [l1]
  simp [ha, e2, z1, z2, e3]
theorem for1 : ∀ (sts : List (List P)) (ns : List F2) (o5 : Option D), Gd ns → (∀ st ∈ sts, StOk own st) → ns.length + sts.length ≤ 7 → ∃ o5', forL (gN 5) (l1 (k + 4)) (sts.map encS) [some (.int own), a, b, t, some (.ref 0), o5] [ns.map fr] = some (.nx, [some (.int own), a, b, t, some (.ref 0), o5'], [(grow own ns sts).map fr])
  | [], ns, o5, _, _, _ => ⟨o5, rfl⟩
  | st :: sts, ns, o5, hg, hs, hl => by
    simp at hl
    have s0 := hs st (by simp)
    obtain ⟨o', e⟩ := for1 sts (ns ++ [nx own ns st]) (some (encS st)) (gd_step hg s0 (by omega)) (fun x hx => hs x (by simp [hx])) (by simp; omega)
    refine ⟨o', ?_⟩
    have e1 := l1_ev (k := k) (own := own) (a := a) (b := b) (t := t) hg s0
    simp only [List.map_cons, forL, grow]
    simp only [List.map_append, List.map_cons, List.map_nil] at e e1 ⊢
    simp [e1, e]
end
noncomputable def toldD (sts : List (List P)) (e : List D) : List D := (sts.flatMap fun st => [D.non, encS st]) ++ e
theorem told_len {sts : List (List P)} {e : List D} : (toldD sts e).length = 2 * sts.length + e.length := by
  unfold toldD
  induction sts with
  | nil => simp
  | cons a r ih => simp at ih ⊢; omega
theorem nr_told {n : Nat} {sts : List (List P)} {e : List D} (he : noRs n e = true) : noRs n (toldD sts e) = true := by
  unfold toldD
  refine noRs_app (noRs_of fun x hx => ?_) he
  rw [List.mem_flatMap] at hx
  obtain ⟨st, _, h⟩ := hx
  simp at h
  rcases h with rfl | rfl
  · rfl
  · simp [encS, noR, nr_st]
section
variable {own num : Int} {g : G} {k : Nat} {rounds : Nat}
noncomputable def ns0 (num : Int) : List F2 := [(num, 1)]
theorem gd0 (h : num.natAbs ≤ 1000000000) : Gd (ns0 num) := ⟨by simp [ns0], by simp [ns0], fun p hp => by
  simp [ns0] at hp
  subst hp
  exact ⟨by simp, by simp [Nat.one_dvd], by simpa using h⟩⟩
theorem b1_eq : b_1 (tab k) = fSeq (fAsg (fMk mkRef (fCons (fMk mkTup (fCons (fVar 1) (fCons (fC (.int 1)) (fNil)))) (fNil))) (gN 4)) (fSeq (fFor (iSeq (fSl3 (fVar 3) (fPart (fC (.int 1))) (fNoP) (fPart (fC (.int 2))))) (gN 5) (l1 k)) (fSeq (fIf (fTest (fOp oGt (fCall bLen (fCons (fVar 4) (fNil))) (fVar 2))) (fRet (fMk mkTup (fCons (fC .non) (fCons (fOp oIx (fVar 4) (fVar 2)) (fNil))))) (fSkip)) (fSeq (fIf (fTest (fOp oEq (fOp (iOp okMod (· % ·)) (fCall bLen (fCons (fVar 3) (fNil))) (fC (.int 2))) (fC (.int 0)))) (fRet (fMk mkTup (fCons (fMk mkTup (fCons (fC (.str "put")) (fCons (fVar 0) (fCons (fCall bTup (fCons (fVar 4) (fNil))) (fNil))))) (fCons (fC .non) (fNil))))) (fSkip)) (fRet (fMk mkTup (fCons (fMk mkTup (fCons (fC (.str "look")) (fNil))) (fCons (fC .non) (fNil)))))))) := rfl
theorem okm2 {i : Int} : okMod i 2 = true := okMod_of (by decide)
theorem run1 {sts : List (List P)} {e : List D} {d : D} (he : e = [] ∨ e = [.non]) (hn : num.natAbs ≤ 1000000000) (hs : ∀ st ∈ sts, StOk own st) (hl : sts.length ≤ 6) (hd : ∀ n, noR n d = true)
    (h : (rounds ≤ sts.length ∧ ∃ p, (grow own (ns0 num) sts)[rounds]? = some p ∧ d = .tup [.non, fr p]) ∨ (sts.length < rounds ∧ e = [] ∧ d = .tup [.tup [.str "put", .int own, .tup ((grow own (ns0 num) sts).map fr)], .non]) ∨ (sts.length < rounds ∧ e = [.non] ∧ d = .tup [.tup [.str "look"], .non])) :
    tab (k + 5) 1 [.int own, .int num, .int (rounds : Nat), .tup (toldD sts e)] g = some (d, g) := by
  have nre : ∀ n, noRs n e = true := fun n => by rcases he with rfl | rfl <;> rfl
  refine pure_eq (by simp [noRs, noR, nr_told (nre 0)]) (gx := []) ?_ (hd 0) g
  have run : wp (runFn false 6 4 (b_1 (tab (k + 4))) [.int own, .int num, .int (rounds : Nat), .tup (toldD sts e)] []) fun r => r = (d, []) := by
    refine wp_runS rfl ?_
    obtain ⟨o5, e1⟩ := for1 (k := k) (own := own) (a := some (.int num)) (b := some (.int (rounds : Nat))) (t := some (.tup (toldD sts e))) sts (ns0 num) none (gd0 hn) hs (by simp [ns0]; omega)
    have sl : oSl3 (.tup (toldD sts e)) (some 1) none (some 2) [[D.tup [.int num, .int 1]]] = some (.tup (sts.map encS), [[D.tup [.int num, .int 1]]]) := odd_pick (by omega) he
    have hlen := told_len (sts := sts) (e := e)
    have gl := grow_len (own := own) sts (ns0 num)
    have gl' : (grow own (ns0 num) sts).length = 1 + sts.length := gl
    have n0 : (ns0 num).map fr = [D.tup [.int num, .int 1]] := rfl
    rw [n0] at e1
    generalize toldD sts e = T at *
    generalize hns : grow own (ns0 num) sts = ns at *
    have z : szOk ns.length = true := sz_of (by omega)
    rw [b1_eq]
    have rp : List.replicate (6 - 4) (none : Option D) = [none, none] := rfl
    simp only [List.map_cons, List.map_nil, List.cons_append, List.nil_append, rp, ev_fSeq, wp_bind]
    rcases h with ⟨h1, p, h2, rfl⟩ | ⟨h1, rfl, rfl⟩ | ⟨h1, rfl, rfl⟩
    · have c1 : (rounds : Int) < (ns.length : Int) := by omega
      have ha : atI (ns.map fr) (rounds : Int) = some (fr p) := at_nat (by rw [List.getElem?_map, h2]; rfl)
      have c2 := hd 0
      have c1' : rounds < ns.length := by omega
      simp [sl, e1, c1, c1', ha]
      exact c2
    · have c1 : ¬ rounds < ns.length := by omega
      have c2 := hd 0
      have hm : (T.length : Int) % 2 = 0 := by simp at hlen; omega
      simp [sl, e1, c1, okm2, hm, z]
      exact c2
    · have c1 : ¬ rounds < ns.length := by omega
      have c2 := hd 0
      have hm : ¬ (T.length : Int) % 2 = 0 := by simp at hlen; omega
      simp [sl, e1, c1, okm2, hm, z]
      exact c2
  obtain ⟨r, e, h⟩ := run
  subst h
  exact e
theorem w1 : (Str.ofString "closer" == Str.ofString "sums") = false := by decide
theorem w2 : (Str.ofString "closer" == Str.ofString "name") = false := by decide
theorem w3 : (Str.ofString "closer" == Str.ofString "least") = false := by decide
theorem t0 {a b c : D} : atI [a, b, c] 0 = some a := rfl
theorem t1 {a b c : D} : atI [a, b, c] 1 = some b := rfl
theorem t2 {a b c : D} : atI [a, b, c] 2 = some c := rfl
theorem ok24 {x t r : D} (h : tab (k + 1) 1 [.int own, .int num, x, t] g = some (r, g)) : tab (k + 2) 24 [.int own, .tup [.str "closer", .int num, x], t] g = some (r, g) :=
  ev_run (σ' := [some (.int own), some (.tup [.str "closer", .int num, x]), some t, some (.str "closer")]) rfl (by simp [b_24, t0, t1, t2, h, w1, w2, w3]) rfl
theorem ok23 {x t a b : D} (h : tab (k + 1) 1 [.int own, .int num, x, t] g = some (.tup [a, b], g)) : tab (k + 3) 23 [.int own, .tup [.str "closer", .int num, x], t] g = some (b, g) :=
  ev_run (σ' := [some (.int own), some (.tup [.str "closer", .int num, x]), some t]) rfl (by simp [b_23, ok24 h, at2_1]) rfl
end
end K61
namespace K61
open PySem L3 L2 Pd
theorem lowS_rat {t : Int} {b : Nat} (h : 0 < b) : lowS t b = ((mkRat t b).num, (mkRat t b).den) := by
  have hb : b ≠ 0 := by omega
  simp only [mkRat, hb, dif_neg, not_false_eq_true, Rat.normalize_eq, lowS]
theorem lowS_eq {t t' : Int} {b b' : Nat} (h : 0 < b) (h' : 0 < b') (e : t * (b' : Int) = t' * (b : Int)) : lowS t b = lowS t' b' := by
  rw [lowS_rat h, lowS_rat h', (Rat.mkRat_eq_iff (by omega) (by omega)).mpr e]
theorem half_eq {p q p' q' : F2} (hp : 0 < p.2) (hq : 0 < q.2) (hp' : 0 < p'.2) (hq' : 0 < q'.2) (e1 : p.1 * (p'.2 : Int) = p'.1 * (p.2 : Int)) (e2 : q.1 * (q'.2 : Int) = q'.1 * (q.2 : Int)) : half p q = half p' q' := by
  refine lowS_eq (dp hp hq) (dp hp' hq') ?_
  simp only [Int.natCast_mul, Int.add_mul]
  have a1 : p.1 * (q.2 : Int) * (((2 : Nat) : Int) * (p'.2 : Int) * (q'.2 : Int)) = p'.1 * (q'.2 : Int) * (((2 : Nat) : Int) * (p.2 : Int) * (q.2 : Int)) := by
    have : p.1 * (q.2 : Int) * (((2 : Nat) : Int) * (p'.2 : Int) * (q'.2 : Int)) = (p.1 * (p'.2 : Int)) * (((2 : Nat) : Int) * (q.2 : Int) * (q'.2 : Int)) := by ac_rfl
    rw [this, e1]; ac_rfl
  have a2 : q.1 * (p.2 : Int) * (((2 : Nat) : Int) * (p'.2 : Int) * (q'.2 : Int)) = q'.1 * (p'.2 : Int) * (((2 : Nat) : Int) * (p.2 : Int) * (q.2 : Int)) := by
    have : q.1 * (p.2 : Int) * (((2 : Nat) : Int) * (p'.2 : Int) * (q'.2 : Int)) = (q.1 * (q'.2 : Int)) * (((2 : Nat) : Int) * (p.2 : Int) * (p'.2 : Int)) := by ac_rfl
    rw [this, e2]; ac_rfl
  rw [a1, a2]
noncomputable def le2 (p q : F2) : Prop := p.1 * (q.2 : Int) ≤ q.1 * (p.2 : Int)
theorem le2_refl {p : F2} : le2 p p := Int.le_refl _
theorem le2_of {p q : F2} (h : lt2 p q = true) : le2 p q := Int.le_of_lt (of_decide_eq_true h)
theorem le2_not {p q : F2} (h : ¬ lt2 p q = true) : le2 q p := by
  unfold lt2 at h
  rw [decide_eq_true_eq] at h
  exact Int.not_lt.mp h
theorem le2_trans {p q r : F2} (hq : 0 < q.2) (h1 : le2 p q) (h2 : le2 q r) : le2 p r := by
  unfold le2 at *
  have a := Int.mul_le_mul_of_nonneg_right h1 (show (0 : Int) ≤ (r.2 : Int) by omega)
  have b := Int.mul_le_mul_of_nonneg_right h2 (show (0 : Int) ≤ (p.2 : Int) by omega)
  refine Int.le_of_mul_le_mul_right (a := (q.2 : Int)) ?_ (by omega)
  rw [show p.1 * (r.2 : Int) * (q.2 : Int) = p.1 * (q.2 : Int) * (r.2 : Int) by ac_rfl, show r.1 * (p.2 : Int) * (q.2 : Int) = r.1 * (q.2 : Int) * (p.2 : Int) by ac_rfl]
  rw [show q.1 * (r.2 : Int) * (p.2 : Int) = q.1 * (p.2 : Int) * (r.2 : Int) by ac_rfl] at b
  exact Int.le_trans a b
theorem mn_le : ∀ (fs : List F2) (l : F2), 0 < l.2 → (∀ y ∈ fs, 0 < y.2) → le2 (mn l fs) l ∧ ∀ y ∈ fs, le2 (mn l fs) y
  | [], l, _, _ => ⟨le2_refl, by simp⟩
  | f :: r, l, hl, hf => by
    have f0 := hf f (by simp)
    unfold mn
    by_cases h : lt2 f l = true
    · rw [if_pos h]
      obtain ⟨h1, h2⟩ := mn_le r f f0 fun y hy => hf y (by simp [hy])
      refine ⟨le2_trans f0 h1 (le2_of h), fun y hy => ?_⟩
      rcases List.mem_cons.mp hy with rfl | hy
      · exact h1
      · exact h2 y hy
    · rw [if_neg h]
      obtain ⟨h1, h2⟩ := mn_le r l hl fun y hy => hf y (by simp [hy])
      refine ⟨h1, fun y hy => ?_⟩
      rcases List.mem_cons.mp hy with rfl | hy
      · exact le2_trans hl h1 (le2_not h)
      · exact h2 y hy
theorem mx_ge : ∀ (fs : List F2) (l : F2), 0 < l.2 → (∀ y ∈ fs, 0 < y.2) → le2 l (mx l fs) ∧ ∀ y ∈ fs, le2 y (mx l fs)
  | [], l, _, _ => ⟨le2_refl, by simp⟩
  | f :: r, l, hl, hf => by
    have f0 := hf f (by simp)
    unfold mx
    by_cases h : lt2 l f = true
    · rw [if_pos h]
      obtain ⟨h1, h2⟩ := mx_ge r f f0 fun y hy => hf y (by simp [hy])
      refine ⟨le2_trans f0 (le2_of h) h1, fun y hy => ?_⟩
      rcases List.mem_cons.mp hy with rfl | hy
      · exact h1
      · exact h2 y hy
    · rw [if_neg h]
      obtain ⟨h1, h2⟩ := mx_ge r l hl fun y hy => hf y (by simp [hy])
      refine ⟨h1, fun y hy => ?_⟩
      rcases List.mem_cons.mp hy with rfl | hy
      · exact le2_trans hl (le2_not h) h1
      · exact h2 y hy
theorem mn_in {f : F2} {r : List F2} : mn f (f :: r) ∈ f :: r := by
  rcases mn_mem (f :: r) f with h | h
  · rw [h]; simp
  · exact h
theorem mx_in {f : F2} {r : List F2} : mx f (f :: r) ∈ f :: r := by
  rcases mx_mem (f :: r) f with h | h
  · rw [h]; simp
  · exact h
theorem mid_eq {f f' : F2} {r r' : List F2} (hd : ∀ y ∈ f :: r, 0 < y.2) (hm : ∀ y, y ∈ f :: r ↔ y ∈ f' :: r') : mid f r = mid f' r' := by
  have hd' : ∀ y ∈ f' :: r', 0 < y.2 := fun y hy => hd y ((hm y).mpr hy)
  have a := mn_le (f :: r) f (hd f (by simp)) hd
  have a' := mn_le (f' :: r') f' (hd' f' (by simp)) hd'
  have b := mx_ge (f :: r) f (hd f (by simp)) hd
  have b' := mx_ge (f' :: r') f' (hd' f' (by simp)) hd'
  have e1 : le2 (mn f (f :: r)) (mn f' (f' :: r')) := a.2 _ ((hm _).mpr mn_in)
  have e2 : le2 (mn f' (f' :: r')) (mn f (f :: r)) := a'.2 _ ((hm _).mp mn_in)
  have e3 : le2 (mx f' (f' :: r')) (mx f (f :: r)) := b.2 _ ((hm _).mpr mx_in)
  have e4 : le2 (mx f (f :: r)) (mx f' (f' :: r')) := b'.2 _ ((hm _).mp mx_in)
  exact half_eq (hd _ mn_in) (hd _ mx_in) (hd' _ mn_in) (hd' _ mx_in) (Int.le_antisymm e1 e2) (Int.le_antisymm e4 e3)
theorem drp_iff (own : Int) : ∀ (st : List P) (i : Nat) (x : P), x ∈ drp own i st ↔ ∃ j : Nat, ((i + j : Nat) : Int) ≠ own ∧ st[j]? = some x
  | [], i, x => by simp [drp]
  | y :: r, i, x => by
    have ih := drp_iff own r (i + 1) x
    rw [drp_c]
    constructor
    · intro h
      by_cases e : (i : Int) = own
      · rw [if_pos e] at h
        obtain ⟨j, h1, h2⟩ := ih.mp h
        exact ⟨j + 1, by rw [show i + (j + 1) = i + 1 + j by omega]; exact h1, by simpa using h2⟩
      · rw [if_neg e] at h
        rcases List.mem_cons.mp h with rfl | h
        · exact ⟨0, by simpa using e, by simp⟩
        · obtain ⟨j, h1, h2⟩ := ih.mp h
          exact ⟨j + 1, by rw [show i + (j + 1) = i + 1 + j by omega]; exact h1, by simpa using h2⟩
    · rintro ⟨j, h1, h2⟩
      cases j with
      | zero =>
        simp at h2
        subst h2
        rw [if_neg (by simpa using h1)]
        simp
      | succ j =>
        have := ih.mpr ⟨j, by rw [show i + 1 + j = i + (j + 1) by omega]; exact h1, by simpa using h2⟩
        split
        · exact this
        · exact List.mem_cons_of_mem _ this
noncomputable def thr (c : Nat) (st : List P) : List F2 := st.filterMap fun o => o.bind (pick c)
theorem thr_iff {c : Nat} {st : List P} {y : F2} : y ∈ thr c st ↔ ∃ (j : Nat) (fs : List F2), st[j]? = some (some fs) ∧ pick c fs = some y := by
  unfold thr
  rw [List.mem_filterMap]
  constructor
  · rintro ⟨o, h1, h2⟩
    obtain ⟨j, hj⟩ := List.mem_iff_getElem?.mp h1
    cases o with
    | none => cases h2
    | some fs => exact ⟨j, fs, hj, h2⟩
  · rintro ⟨j, fs, h1, h2⟩
    exact ⟨some fs, List.mem_iff_getElem?.mpr ⟨j, h1⟩, h2⟩
theorem oth_iff {own : Int} {c : Nat} {st : List P} {y : F2} : y ∈ oth own c st ↔ ∃ (j : Nat) (fs : List F2), (j : Int) ≠ own ∧ st[j]? = some (some fs) ∧ pick c fs = some y := by
  unfold oth
  rw [List.mem_filterMap]
  constructor
  · rintro ⟨fs, h1, h2⟩
    rw [List.mem_filterMap] at h1
    obtain ⟨o, h3, h4⟩ := h1
    simp at h4
    subst h4
    obtain ⟨j, h5, h6⟩ := (drp_iff own st 0 _).mp h3
    exact ⟨j, fs, by simpa using h5, h6, h2⟩
  · rintro ⟨j, fs, h1, h2, h3⟩
    refine ⟨fs, ?_, h3⟩
    rw [List.mem_filterMap]
    exact ⟨some fs, (drp_iff own st 0 _).mpr ⟨j, by simpa using h1, h2⟩, rfl⟩
theorem la_get {ns : List F2} {r : Nat} (h : ns.length = r + 1) : ns[r]? = some (la ns) := by
  unfold la
  rw [List.getLastD_eq_getLast?, List.getLast?_eq_getElem?, h, Nat.add_sub_cancel, List.getElem?_eq_getElem (by omega)]
  rfl
theorem thr_own {own c : Nat} {st : List P} {ns : List F2} (ho : st[own]? = some (some ns)) (hl : ns.length = c + 1) (y : F2) : y ∈ thr c st ↔ y ∈ la ns :: oth own c st := by
  have hp : pick c ns = some (la ns) := by unfold pick; rw [if_pos (by omega), la_get hl]
  rw [thr_iff, List.mem_cons, oth_iff]
  constructor
  · rintro ⟨j, fs, h1, h2⟩
    by_cases e : j = own
    · subst e
      rw [ho] at h1
      cases h1
      rw [hp] at h2
      cases h2
      exact .inl rfl
    · exact .inr ⟨j, fs, by omega, h1, h2⟩
  · rintro (rfl | ⟨j, fs, _, h1, h2⟩)
    · exact ⟨own, ns, ho, hp⟩
    · exact ⟨j, fs, h1, h2⟩
theorem nx_eq {own c : Nat} {st : List P} {ns : List F2} {f0 : F2} {r : List F2} (ho : st[own]? = some (some ns)) (hl : ns.length = c + 1) (ht : thr c st = f0 :: r) (hg : Gd ns) (hs : StOk own st) : mid f0 r = nx own ns st := by
  unfold nx
  rw [show ns.length - 1 = c by omega]
  refine mid_eq (fun y hy => ?_) fun y => by rw [← ht]; exact thr_own ho hl y
  rw [← ht] at hy
  have := (thr_own ho hl y).mp hy
  rw [show c = ns.length - 1 by omega] at this
  exact (nx_dn hg hs y this).1
section
variable {k : Nat} {g : G} {p q : F2}
theorem ok51 (hp : Dn p) (hq : Dn q) : tab (k + 2) 51 [fr p, fr q] g = some (fr (half p q), g) := by
  have e6 := ok50 (k := k) (g := g) (t := p.1 * (q.2 : Int) + q.1 * (p.2 : Int)) (dp hp.1 hq.1) (dd hp.2 hq.2)
  have m2 : okMul 2 (p.2 : Int) = true := okMul_l (by decide) (by decide)
  have c : ((2 * p.2 * q.2 : Nat) : Int) = 2 * (p.2 : Int) * (q.2 : Int) := by simp
  rw [c] at e6
  refine ev_run (σ' := [some (fr p), some (fr q)]) rfl ?_ rfl
  have fp : fr p = .tup [.int p.1, .int (p.2 : Int)] := rfl
  have fq : fr q = .tup [.int q.1, .int (q.2 : Int)] := rfl
  simp only [b_51, List.map_cons, List.map_nil]
  simp [fp, fq, at_0, at_1, mulN hp.2, mulN hq.2, m2, e6, half]
noncomputable def l52 : FS := fIf (fTest (fOp oLt (fOp oMul (fVar 1) (fOp (iOp okAny (· - ·)) (fOp oMul (fOp oIx (fVar 3) (fC (.int 0))) (fOp oIx (fVar 2) (fC (.int 1)))) (fOp oMul (fOp oIx (fVar 2) (fC (.int 0))) (fOp oIx (fVar 3) (fC (.int 1)))))) (fC (.int 0)))) (fAsg (fVar 3) (gN 2)) (fSkip)
theorem l52_mn {x : Option D} {l f : F2} (hl : Dn l) (hf : Dn f) : l52 [x, some (.int 1), some (fr l), some (fr f)] g = some (.nx, [x, some (.int 1), some (fr (if lt2 f l = true then f else l)), some (fr f)], g) := by
  have m1 : ∀ i : Int, okMul 1 i = true := fun i => okMul_l (by decide) (by decide)
  by_cases h : f.1 * (l.2 : Int) < l.1 * (f.2 : Int)
  · have h' : f.1 * (l.2 : Int) - l.1 * (f.2 : Int) < 0 := by omega
    simp [l52, fr, at_0, at_1, mulN hl.2, mulN hf.2, m1, lt2, h, h']
  · have h' : ¬ f.1 * (l.2 : Int) - l.1 * (f.2 : Int) < 0 := by omega
    simp [l52, fr, at_0, at_1, mulN hl.2, mulN hf.2, m1, lt2, h, h']
theorem l52_mx {x : Option D} {l f : F2} (hl : Dn l) (hf : Dn f) : l52 [x, some (.int (-1)), some (fr l), some (fr f)] g = some (.nx, [x, some (.int (-1)), some (fr (if lt2 l f = true then f else l)), some (fr f)], g) := by
  have m1 : ∀ i : Int, okMul (-1) i = true := fun i => okMul_l (by decide) (by decide)
  by_cases h : l.1 * (f.2 : Int) < f.1 * (l.2 : Int)
  · have h' : -1 * (f.1 * (l.2 : Int) - l.1 * (f.2 : Int)) < 0 := by omega
    simp [l52, fr, at_0, at_1, mulN hl.2, mulN hf.2, m1, lt2, h]
  · have h' : ¬ -1 * (f.1 * (l.2 : Int) - l.1 * (f.2 : Int)) < 0 := by omega
    simp [l52, fr, at_0, at_1, mulN hl.2, mulN hf.2, m1, lt2, h]
theorem for52n {x : Option D} : ∀ (fs : List F2) (l : F2) (o : Option D), Dn l → (∀ f ∈ fs, Dn f) → ∃ o', forL (gN 3) l52 (fs.map fr) [x, some (.int 1), some (fr l), o] g = some (.nx, [x, some (.int 1), some (fr (mn l fs)), o'], g)
  | [], l, o, _, _ => ⟨o, rfl⟩
  | f :: fs, l, o, hl, hf => by
    have f0 := hf f (by simp)
    obtain ⟨o', e⟩ := for52n (x := x) fs (if lt2 f l = true then f else l) (some (fr f)) (dn_if hl f0) fun y hy => hf y (by simp [hy])
    exact ⟨o', by simp only [List.map_cons, forL, mn]; simp [l52_mn hl f0, e]⟩
theorem for52x {x : Option D} : ∀ (fs : List F2) (l : F2) (o : Option D), Dn l → (∀ f ∈ fs, Dn f) → ∃ o', forL (gN 3) l52 (fs.map fr) [x, some (.int (-1)), some (fr l), o] g = some (.nx, [x, some (.int (-1)), some (fr (mx l fs)), o'], g)
  | [], l, o, _, _ => ⟨o, rfl⟩
  | f :: fs, l, o, hl, hf => by
    have f0 := hf f (by simp)
    obtain ⟨o', e⟩ := for52x (x := x) fs (if lt2 l f = true then f else l) (some (fr f)) (dn_if hl f0) fun y hy => hf y (by simp [hy])
    exact ⟨o', by simp only [List.map_cons, forL, mx]; simp [l52_mx hl f0, e]⟩
theorem b52_eq : b_52 (tab k) = fSeq (fAsg (fOp oIx (fVar 0) (fC (.int 0))) (gN 2)) (fSeq (fFor (iSeq (fVar 0)) (gN 3) l52) (fRet (fVar 2))) := rfl
theorem ok52n {f : F2} {r : List F2} (hf : ∀ y ∈ f :: r, Dn y) : tab (k + 1) 52 [.lst ((f :: r).map fr), .int 1] g = some (fr (mn f (f :: r)), g) := by
  obtain ⟨o', e⟩ := for52n (g := g) (x := some (.lst ((f :: r).map fr))) (f :: r) f none (hf f (by simp)) hf
  have ha : atI ((f :: r).map fr) 0 = some (fr f) := at_c
  refine ev_run (σ' := [some (.lst ((f :: r).map fr)), some (.int 1), some (fr (mn f (f :: r))), o']) rfl ?_ rfl
  rw [b52_eq]
  generalize mn f (f :: r) = z at *
  generalize (f :: r).map fr = fs at *
  simp only [List.map_cons, List.map_nil, ev_fSeq]
  simp [ha, e]
theorem ok52x {f : F2} {r : List F2} (hf : ∀ y ∈ f :: r, Dn y) : tab (k + 1) 52 [.lst ((f :: r).map fr), .int (-1)] g = some (fr (mx f (f :: r)), g) := by
  obtain ⟨o', e⟩ := for52x (g := g) (x := some (.lst ((f :: r).map fr))) (f :: r) f none (hf f (by simp)) hf
  have ha : atI ((f :: r).map fr) 0 = some (fr f) := at_c
  refine ev_run (σ' := [some (.lst ((f :: r).map fr)), some (.int (-1)), some (fr (mx f (f :: r))), o']) rfl ?_ rfl
  rw [b52_eq]
  generalize mx f (f :: r) = z at *
  generalize (f :: r).map fr = fs at *
  simp only [List.map_cons, List.map_nil, ev_fSeq]
  simp [ha, e]
end
theorem fl_frs : ∀ fs : List F2, flats (fs.map fr) = true
  | [] => rfl
  | f :: r => by
    have := fl_frs r
    simp [flats, fr, flat, this]
theorem dp_frs : ∀ fs : List F2, deps (fs.map fr) ≤ 5
  | [] => by simp [deps]
  | f :: r => by
    have := dp_frs r
    simp only [List.map_cons, deps, fr, dep]
    simp
    omega
noncomputable abbrev cThr : FT := fAnd (fTest (fOp oNeD (fVar 0) (fC (.int 0)))) (fTest (fOp oGt (fCall bLen (fCons (fVar 0) (fNil))) (fVar 1)))
theorem comp_thrR (c : Nat) (g : G) (p : Nat) : ∀ (st pre : List P) (o : Option D), (∀ fs, some fs ∈ st → 0 < fs.length ∧ fs.length ≤ 100) → g[p]? = some ((pre ++ st).map enc) → compLR p (pre ++ st).length (gN 0) cThr (fOp oIx (fVar 0) (fVar 1)) st.length [o, some (.int (c : Nat))] g = some ((thr c st).map fr, g)
  | [], pre, o, hf, h => by
    simp [compLR, h, thr]
  | none :: st, pre, o, hf, h => by
    have := comp_thrR c g p st (pre ++ [none]) (some (.int 0)) (fun fs hm => hf fs (by simp [hm])) (by simpa using h)
    have hl : (pre ++ none :: st).length - (st.length + 1) = pre.length := by simp
    have hl2 : (pre ++ [none] ++ st).length = (pre ++ none :: st).length := by simp
    rw [hl2] at this
    have hd : ((pre ++ none :: st).map enc)[pre.length]? = some (.int 0) := by simp [enc]
    generalize hL : (pre ++ none :: st).length = L at *
    have hm : ((pre ++ none :: st).map enc).length = L := by rw [List.length_map]; exact hL
    generalize (pre ++ none :: st).map enc = M at *
    simp only [List.length_cons, compLR, h, Option.bind_some, hm, if_true, hl, hd]
    simp [eqD, flat, dep, this, thr]
  | some fs :: st, pre, o, hf, h => by
    have := comp_thrR c g p st (pre ++ [some fs]) (some (.tup (fs.map fr))) (fun fs hm => hf fs (by simp [hm])) (by simpa using h)
    have hl : (pre ++ some fs :: st).length - (st.length + 1) = pre.length := by simp
    have hl2 : (pre ++ [some fs] ++ st).length = (pre ++ some fs :: st).length := by simp
    rw [hl2] at this
    have hd : ((pre ++ some fs :: st).map enc)[pre.length]? = some (.tup (fs.map fr)) := by simp [enc]
    generalize hL : (pre ++ some fs :: st).length = L at *
    have hm : ((pre ++ some fs :: st).map enc).length = L := by rw [List.length_map]; exact hL
    generalize (pre ++ some fs :: st).map enc = M at *
    have ff : flat (.tup (fs.map fr)) = true := by
      simp only [flat]
      exact fl_frs fs
    have fd : dep (.tup (fs.map fr)) ≤ 60 := by
      have := dp_frs fs
      simp only [dep]; omega
    have f0 : flat (.int 0) = true := rfl
    have fe : eqD (.tup (fs.map fr)) (.int 0) = false := by simp [eqD]
    simp only [List.length_cons, compLR, h, Option.bind_some, hm, if_true, hl, hd]
    by_cases hc : c + 1 ≤ fs.length
    · have hp : pick c fs = some fs[c] := by unfold pick; rw [if_pos hc, List.getElem?_eq_getElem (by omega)]
      have ha : atI (fs.map fr) (c : Int) = some (fr fs[c]) := at_nat (by rw [List.getElem?_map, List.getElem?_eq_getElem (by omega)]; rfl)
      have hc' : c < fs.length := by omega
      have ht : thr c (some fs :: st) = fs[c] :: thr c st := by unfold thr; rw [List.filterMap_cons_some (by exact hp)]
      rw [ht]
      simp [ff, f0, fd, fe, hc', ha, this]
    · have hp : pick c fs = none := by unfold pick; rw [if_neg hc]
      have hc' : ¬ c < fs.length := by omega
      have ht : thr c (some fs :: st) = thr c st := by unfold thr; rw [List.filterMap_cons_none (by exact hp)]
      rw [ht]
      simp [ff, f0, fd, fe, hc', this]
end K61
namespace K61
open PySem L3 L2 Pd
theorem bot_in {d : D} (h : d ∈ [D.int 1, .int 2, .int 4, .int 64]) : ∃ b : Nat, d = .int (b : Int) ∧ 0 < b ∧ b ∣ 2 ^ 6 ∧ b ≤ 64 := by
  simp only [List.mem_cons, List.not_mem_nil, or_false] at h
  rcases h with rfl | rfl | rfl | rfl
  · exact ⟨1, rfl, by decide, by decide, by decide⟩
  · exact ⟨2, rfl, by decide, by decide, by decide⟩
  · exact ⟨4, rfl, by decide, by decide, by decide⟩
  · exact ⟨64, rfl, by decide, by decide, by decide⟩
theorem low6 {num r : Int} {b : Nat} (hn : num.natAbs ≤ 40) (r0 : 0 ≤ r) (r1 : r < 7) (b0 : 0 < b) (b1 : b ∣ 2 ^ 6) (b2 : b ≤ 64) : OkE 6 (lowS (num * (b : Int) + r - 3) b) := by
  refine low_ok b0 (Nat.dvd_trans b1 (Nat.dvd_mul_right _ _)) ?_
  have h1 : (num * (b : Int)).natAbs ≤ 40 * b := by
    rw [Int.natAbs_mul, Int.natAbs_natCast]
    exact Nat.mul_le_mul_right _ hn
  omega
theorem num6 {num : Int} (hn : num.natAbs ≤ 40) : OkE 6 (num, 1) := ⟨Nat.one_pos, by simp [Nat.one_dvd], by simp; omega⟩
set_option maxHeartbeats 4000000 in
theorem row_w {n : Nat} {num : Int} {g : G} {B : Int} {Q : D × G → Prop} (hB0 : 0 ≤ B) (hB : B + 100 < 2 ^ 40) (hn : num.natAbs ≤ 40) (hc : Clean g) (hd : Hd g n B) (q : ∀ (fs : List F2) g', 0 < fs.length → fs.length ≤ 6 → (∀ f ∈ fs, OkE 6 f) → Hd g' n (B + 11) → Fr n g g' → Q (.tup (fs.map fr), g')) : wp (tab 57 53 [.ref n, .int num] g) Q := by
  refine wp_runS rfl ?_
  simp [b_53]
  refine iR1_w ?_
  simp
  refine (okT 55).w (by omega) (by decide) (by decide) (Mk.init (xs := [D.tup [.int num, .int 1]]) hd).hd fun a g1 a0 a1 h1 f1 => ?_
  have m1 := (Mk.init (xs := [D.tup [.int num, .int 1]]) hd).step h1 f1
  simp
  refine ⟨by omega, by omega, ?_⟩
  refine wp_forL (fun i σ gg => (∃ o3 o4, σ = [some (.ref n), some (.int num), some (.ref g.length), o3, o4]) ∧ ∃ fs : List F2, fs.length = 1 + i ∧ (∀ f ∈ fs, OkE 6 f) ∧ Mk g gg n (B + 1 + i * 2) (fs.map fr)) _ 0 _ _ ⟨⟨_, _, rfl⟩, [(num, 1)], rfl, by simpa using num6 hn, m1.mono (by omega)⟩ ?_ ?_
  · rintro i d σ gg hdi ⟨⟨o3, o4, rfl⟩, fs, hfl, hfs, m2⟩
    obtain ⟨hi, rfl⟩ := rng_get0 hdi
    simp
    refine (okP 54).w (by omega) (by simp) (by simp) m2.hd fun d g2 hdm h2 f2 => ?_
    have m3 := m2.step h2 f2
    obtain ⟨b, rfl, b0, b1, b2⟩ := bot_in hdm
    have hm : okMul num (b : Int) = true := okMul_r (by omega) (by omega)
    have hlt : g.length < g2.length := by rw [m3.len]; omega
    simp [hm, hlt]
    refine (okT 55).w (by omega) (by decide) (by decide) h2 fun r g3 r0 r1 h3 f3 => ?_
    have m4 := m3.step h3 f3
    have e50 := ok50 (k := 55) (g := g3) (t := num * (b : Int) + r - 3) b0 (by omega)
    have z : szOk (fs.length + 1) = true := sz_of (by omega)
    simp [e50, m4.at_, z]
    refine ⟨fs ++ [lowS (num * (b : Int) + r - 3) b], by simp; omega, fun x y hx => ?_, ?_⟩
    · rcases List.mem_append.mp hx with hx | hx
      · exact hfs _ hx
      · simp at hx; rw [hx]; exact low6 hn r0 r1 b0 b1 b2
    · have := (m4.put (ys := fs.map fr ++ [fr (lowS (num * (b : Int) + r - 3) b)])).mono (B' := B + 1 + (i + 1) * 2) (by omega)
      simpa using this
  · rintro σ gg ⟨⟨o3, o4, rfl⟩, fs, hfl, hfs, m2⟩
    rw [rng_len] at hfl m2
    have z : szOk fs.length = true := sz_of (by omega)
    have hf := m2.fin
    simp [m2.at_, z]
    refine ⟨by simp [noR, nr_fr], fun x hx => (hc.fr hf.2 hf.1) x hx _, by rw [m2.len]; omega, q fs _ (by omega) (by omega) hfs (hf.1.mono (by omega)) hf.2⟩
theorem Mk.clean {g gg : G} {n : Nat} {B : Int} {xs : List D} (m : Mk g gg n B xs) (hc : Clean g) (hx : ∀ n, noRs n xs = true) : Clean gg := by
  intro ys hy q
  obtain ⟨j, hj⟩ := List.mem_iff_getElem?.mp hy
  have hl := (List.getElem?_eq_some_iff.mp hj).1
  have h2 := m.len
  by_cases e : j = n
  · subst e
    obtain ⟨a, b, c, h1, _⟩ := m.hd
    rw [h1] at hj
    cases hj
    simp [noRs, noR]
  · by_cases e2 : j = g.length
    · subst e2
      rw [m.at_] at hj
      cases hj
      exact hx q
    · rw [m.old j e (by omega)] at hj
      exact hc ys (List.mem_iff_getElem?.mpr ⟨j, hj⟩) q
theorem clean_set {g : G} {i : Nat} {zs : List D} (hc : Clean g) (hz : ∀ n, noRs n zs = true) : Clean (g.set i zs) := by
  intro ys hy q
  rcases List.mem_or_eq_of_mem_set hy with h | h
  · exact hc ys h q
  · rw [h]; exact hz q
theorem clean_app {g : G} {zs : List (List D)} (hc : Clean g) (hz : ∀ z ∈ zs, ∀ n, noRs n z = true) : Clean (g ++ zs) := by
  intro ys hy q
  rcases List.mem_append.mp hy with h | h
  · exact hc ys h q
  · exact hz ys h q
structure Two (g gg : G) (n : Nat) (B : Int) (xs ys : List D) : Prop where
  hd : Hd gg n B
  lt : n < g.length
  len : g.length + 2 ≤ gg.length
  a1 : gg[g.length]? = some xs
  a2 : gg[g.length + 1]? = some ys
  old : ∀ j, j ≠ n → j < g.length → gg[j]? = g[j]?
  cl : Clean gg
section
variable {g gg g' : G} {n : Nat} {B B' : Int} {xs ys zs : List D}
theorem Two.init (h : Hd g n B) (hc : Clean g) (hx : ∀ n, noRs n xs = true) (hy : ∀ n, noRs n ys = true) : Two g (g ++ [xs, ys]) n B xs ys := by
  have hl := h.lt
  obtain ⟨a, b, c, h1, h2⟩ := h
  exact ⟨⟨a, b, c, by rw [List.getElem?_append_left hl]; exact h1, h2⟩, hl, by simp, by simp, by simp, fun j _ hj => List.getElem?_append_left hj, clean_app hc fun z hz => by
    simp at hz
    rcases hz with rfl | rfl
    · exact hx
    · exact hy⟩
theorem Two.step (m : Two g gg n B xs ys) (h : Hd g' n B') (f : Fr n gg g') : Two g g' n B' xs ys := by
  have := m.lt
  exact ⟨h, m.lt, by rw [f.1]; exact m.len, by rw [f.2 _ (by omega)]; exact m.a1, by rw [f.2 _ (by omega)]; exact m.a2, fun j hj hl => by rw [f.2 j hj]; exact m.old j hj hl, m.cl.fr f h⟩
theorem Two.put1 (m : Two g gg n B xs ys) (hz : ∀ n, noRs n zs = true) : Two g (gg.set g.length zs) n B zs ys := by
  have h1 := m.lt
  have h2 := m.len
  obtain ⟨a, b, c, h3, h4⟩ := m.hd
  exact ⟨⟨a, b, c, by rw [List.getElem?_set_ne (by omega)]; exact h3, h4⟩, h1, by simp [h2], by rw [List.getElem?_set_self (by omega)], by rw [List.getElem?_set_ne (by omega)]; exact m.a2, fun j hj hl => by rw [List.getElem?_set_ne (by omega)]; exact m.old j hj hl, clean_set m.cl hz⟩
theorem Two.put2 (m : Two g gg n B xs ys) (hz : ∀ n, noRs n zs = true) : Two g (gg.set (g.length + 1) zs) n B xs zs := by
  have h1 := m.lt
  have h2 := m.len
  obtain ⟨a, b, c, h3, h4⟩ := m.hd
  exact ⟨⟨a, b, c, by rw [List.getElem?_set_ne (by omega)]; exact h3, h4⟩, h1, by simp [h2], by rw [List.getElem?_set_ne (by omega)]; exact m.a1, by rw [List.getElem?_set_self (by omega)], fun j hj hl => by rw [List.getElem?_set_ne (by omega)]; exact m.old j hj hl, clean_set m.cl hz⟩
theorem Two.mono (m : Two g gg n B xs ys) (h : B ≤ B') : Two g gg n B' xs ys := ⟨m.hd.mono h, m.lt, m.len, m.a1, m.a2, m.old, m.cl⟩
theorem Two.inner (m : Two g gg n B xs ys) (k : Mk gg g' n B' zs) (hz : ∀ n, noRs n zs = true) : Two g g' n B' xs ys := by
  have h1 := m.lt
  have h2 := m.len
  have h3 := k.len
  exact ⟨k.hd, h1, by omega, by rw [k.old _ (by omega) (by omega)]; exact m.a1, by rw [k.old _ (by omega) (by omega)]; exact m.a2, fun j hj hl => by rw [k.old j hj (by omega)]; exact m.old j hj hl, Mk.clean k m.cl hz⟩
theorem Two.fin (m : Two g gg n B xs ys) : Hd (gg.take g.length) n B ∧ Fr n g (gg.take g.length) := by
  have h1 := m.lt
  have h2 := m.len
  obtain ⟨a, b, c, h3, h4⟩ := m.hd
  refine ⟨⟨a, b, c, by rw [List.getElem?_take_of_lt h1]; exact h3, h4⟩, by simp; omega, fun j hj => ?_⟩
  by_cases hl : j < g.length
  · rw [List.getElem?_take_of_lt hl]; exact m.old j hj hl
  · rw [List.getElem?_eq_none (by simp; omega), List.getElem?_eq_none (by omega)]
end
end K61
namespace K61
open PySem L3 L2 Pd
inductive Ans (own : Nat) (num : Int) (rounds : Nat) : D → Option F2 → Prop
  | a0 {sts : List (List P)} : sts.length < rounds → (∀ st ∈ sts, StOk own st) → Ans own num rounds (.tup (toldD sts [])) none
  | a1 {sts : List (List P)} : sts.length < rounds → (∀ st ∈ sts, StOk own st) → Ans own num rounds (.tup (toldD sts [.non])) none
  | a2 {sts : List (List P)} : sts.length = rounds → (∀ st ∈ sts, StOk own st) → Ans own num rounds (.tup (toldD sts [])) (some (la (grow own (ns0 num) sts)))
noncomputable def eO : Option F2 → D
  | none => .non
  | some p => fr p
theorem ans_of {own rounds : Nat} {num : Int} {g : G} {k : Nat} {t : D} {a : Option F2} (hr : rounds ≤ 6) (hn : num.natAbs ≤ 40) (h : Ans own num rounds t a) : tab (k + 7) 23 [.int own, .tup [.str "closer", .int num, .int (rounds : Nat)], t] g = some (eO a, g) := by
  cases h with
  | a0 h1 h2 => exact ok23 (run1 (k := k) (.inl rfl) (by omega) h2 (by omega) (d := .tup [.tup [.str "put", .int own, .tup ((grow own (ns0 num) _).map fr)], .non]) (fun n => by simp [noR, noRs, nr_fr]) (.inr (.inl ⟨h1, rfl, rfl⟩)))
  | a1 h1 h2 => exact ok23 (run1 (k := k) (.inr rfl) (by omega) h2 (by omega) (d := .tup [.tup [.str "look"], .non]) (fun n => by simp [noR, noRs]) (.inr (.inr ⟨h1, rfl, rfl⟩)))
  | @a2 sts h1 h2 =>
    have lg := la_get (ns := grow own (ns0 num) sts) (r := rounds) (by rw [grow_len]; simp [ns0]; omega)
    exact ok23 (run1 (k := k) (.inl rfl) (by omega) h2 (by omega) (d := .tup [.non, fr (la (grow own (ns0 num) sts))]) (fun n => by simp [noR, noRs, fr]) (.inl ⟨by omega, _, lg, rfl⟩))
theorem Ans.noR {own rounds : Nat} {num : Int} {t : D} {a : Option F2} (h : Ans own num rounds t a) (n : Nat) : noR n t = true := by
  cases h with
  | a0 h1 h2 => simp [L3.noR, nr_told (e := []) rfl]
  | a1 h1 h2 => simp [L3.noR, nr_told (e := [.non]) rfl]
  | a2 h1 h2 => simp [L3.noR, nr_told (e := []) rfl]
theorem eO_noR {a : Option F2} {n : Nat} : noR n (eO a) = true := by
  cases a <;> simp [eO, noR, fr, noRs]
theorem told_a {sts : List (List P)} : toldD sts [] ++ [D.non] = toldD sts [.non] := by simp [toldD]
theorem told_b {sts : List (List P)} {st : List P} : toldD sts [.non] ++ [encS st] = toldD (sts ++ [st]) [] := by simp [toldD]
theorem enc_set {st : List P} {i : Nat} {ns : List F2} : (st.map enc).set i (.tup (ns.map fr)) = (st.set i (some ns)).map enc := by
  rw [List.map_set]; rfl
noncomputable def Row6 (st : List P) : Prop := ∀ fs, some fs ∈ st → 0 < fs.length ∧ fs.length ≤ 6 ∧ ∀ f ∈ fs, OkE 6 f
theorem st_ok {own : Nat} {st : List P} {ns : List F2} (h : Row6 st) (hl : st.length ≤ 5) : StOk own (st.set own (some ns)) := by
  refine ⟨by simp; omega, fun fs hm f hf => ?_⟩
  obtain ⟨j, h1, h2⟩ := (drp_iff own _ 0 _).mp hm
  rw [List.getElem?_set_ne (by simp at h1; omega)] at h2
  exact (h fs (List.mem_iff_getElem?.mpr ⟨j, h2⟩)).2.2 f hf
theorem row_len {own : Nat} {st : List P} {ns : List F2} (h : Row6 st) (h0 : 0 < ns.length) (h7 : ns.length ≤ 7) : ∀ fs, some fs ∈ st.set own (some ns) → 0 < fs.length ∧ fs.length ≤ 100 := by
  intro fs hm
  rcases List.mem_or_eq_of_mem_set hm with hm | hm
  · have := h fs hm; omega
  · cases hm; omega
theorem nr_enc (n : Nat) (st : List P) : noRs n (st.map enc) = true := nr_st st
set_option maxHeartbeats 8000000 in
theorem told_w {n own rounds : Nat} {nums : List Int} {num : Int} {g : G} {B : Int} {Q : D × G → Prop} (hB0 : 0 ≤ B) (hB : B + 1000 < 2 ^ 40) (hl : nums.length ≤ 5) (ho : nums[own]? = some num) (hn : ∀ v ∈ nums, v.natAbs ≤ 40) (hr : rounds ≤ 6) (hc : Clean g) (hd : Hd g n B) (q : ∀ t a g', Ans own num rounds t a → Hd g' n (B + 500) → Fr n g g' → Q (.tup [t, eO a], g')) : wp (tab 58 54 [.ref n, .int own, .lst (nums.map .int), .int (rounds : Nat)] g) Q := by
  have ho' : own < nums.length := (List.getElem?_eq_some_iff.mp ho).1
  have hnn : num.natAbs ≤ 40 := hn num (List.mem_of_getElem? ho)
  have hv : atI (nums.map D.int) (own : Int) = some (.int num) := at_nat (by rw [List.getElem?_map, ho]; rfl)
  refine wp_runS rfl ?_
  simp [b_54, hv]
  refine iR1_w ?_
  simp
  refine ⟨by omega, ?_⟩
  have t0 : Two g (g ++ [[D.tup [.int num, .int 1]], []]) n B ((ns0 num).map fr) (toldD [] []) := Two.init hd hc (fun n => by simp [noRs, noR]) (fun n => rfl)
  refine wp_forL (fun i σ gg => (∃ o6 o7 o8 o9 p1, σ = [some (.ref n), some (.int own), some (.lst (nums.map .int)), some (.int (rounds : Nat)), some (.ref g.length), some (.ref (g.length + 1)), o6, o7, o8, o9, p1]) ∧ ∃ sts : List (List P), sts.length = i ∧ (∀ st ∈ sts, StOk own st) ∧ Two g gg n (B + i * 80) ((grow own (ns0 num) sts).map fr) (toldD sts [])) _ 0 _ _ ⟨⟨_, _, _, _, _, rfl⟩, [], rfl, by simp, t0.mono (by omega)⟩ ?_ ?_
  · rintro i d σ gg hdi ⟨⟨o6, o7, o8, o9, p1, rfl⟩, sts, hsl, hst, m1⟩
    obtain ⟨hi, rfl⟩ := rng_get0 hdi
    rw [Nat.zero_add] at *
    have gl : (grow own (ns0 num) sts).length = 1 + sts.length := grow_len sts (ns0 num)
    have gd : Gd (grow own (ns0 num) sts) := gd_grow sts (ns0 num) (gd0 (by omega)) hst (by simp [ns0]; omega)
    simp
    refine (okT 56).w (by omega) (by decide) (by decide) m1.hd fun a g2 a0 a1 h2 f2 => ?_
    have m2 := m1.step h2 f2
    have tl1 := told_len (sts := sts) (e := [])
    have tl2 := told_len (sts := sts) (e := [.non])
    simp at tl1 tl2
    have z1 : szOk (toldD sts []).length = true := sz_of (by omega)
    have z2 : szOk ((toldD sts []).length + 1) = true := sz_of (by omega)
    have z3 : szOk (toldD sts [.non]).length = true := sz_of (by omega)
    have z4 : szOk ((toldD sts [.non]).length + 1) = true := sz_of (by omega)
    by_cases ha : a = 0
    · subst ha
      have hA : Ans own num rounds (.tup (toldD sts [])) none := .a0 (by omega) hst
      have hf := m2.fin
      have := hA.noR g.length
      simp [m2.a2, z1]
      exact ⟨by simpa [noR, noRs] using this, fun x hx => (hc.fr hf.2 hf.1) x hx _, by have := m2.len; omega, q _ _ _ hA (hf.1.mono (by omega)) hf.2⟩
    · have m3 := m2.put2 (zs := toldD sts [.non]) (fun n => nr_told rfl)
      have hlt : g.length + 1 < g2.length := by have := m2.len; omega
      have e2 : ∀ h, g2[g.length + 1]'h = toldD sts [] := fun h => by
        have := m2.a2
        rw [List.getElem?_eq_getElem h] at this
        exact Option.some.inj this
      simp [ha, e2, z2, told_a, hlt]
      refine (okT 56).w (by omega) (by decide) (by decide) m3.hd fun b g3 b0 b1 h3 f3 => ?_
      have m4 := m3.step h3 f3
      by_cases hb : b = 0
      · subst hb
        have hA : Ans own num rounds (.tup (toldD sts [.non])) none := .a1 (by omega) hst
        have hf := m4.fin
        have := hA.noR g.length
        simp [m4.a2, z3]
        exact ⟨by simpa [noR, noRs] using this, fun x hx => (hc.fr hf.2 hf.1) x hx _, by have := m4.len; omega, q _ _ _ hA (hf.1.mono (by omega)) hf.2⟩
      · simp [hb]
        refine iR1_w ?_
        simp
        refine ⟨by omega, ?_⟩
        refine wp_forL (fun j σ g4 => (∃ o8 o9, σ = [some (.ref n), some (.int own), some (.lst (nums.map .int)), some (.int (rounds : Nat)), some (.ref g.length), some (.ref (g.length + 1)), some (.int i), some (.ref g3.length), o8, o9, p1]) ∧ ∃ st : List P, st.length = j ∧ Row6 st ∧ Mk g3 g4 n (B + i * 80 + 2 + j * 13) (st.map enc)) _ 0 _ _ ⟨⟨_, _, rfl⟩, [], rfl, fun fs hm => by simp at hm, (Mk.init m4.hd).mono (by omega)⟩ ?_ ?_
        · rintro j d σ g4 hdj ⟨⟨o8, o9, rfl⟩, st, hst4, hrow, m5⟩
          obtain ⟨hj, rfl⟩ := rng_get0 hdj
          rw [Nat.zero_add] at *
          have hj' : j < nums.length := by omega
          simp
          refine (okP 55).w (by omega) (fun h => by rw [List.map_eq_nil_iff] at h; rw [h] at hj'; simp at hj') (by rw [List.length_map]; omega) m5.hd fun d g5 hdm h5 f5 => ?_
          have m6 := m5.step h5 f5
          obtain ⟨v, hv1, rfl⟩ := List.mem_map.mp hdm
          refine row_w (by omega) (by omega) (hn v hv1) (Mk.clean m6 m4.cl (nr_enc · _)) h5 fun fs g6 fs0 fs6 hfs h6 f6 => ?_
          have m7 := m6.step h6 f6
          have hlt3 : g3.length < g6.length := by rw [m7.len]; omega
          have z5 : szOk (st.length + 1) = true := sz_of (by omega)
          simp [hlt3]
          refine (okT 56).w (by omega) (by decide) (by decide) h6 fun r g7 r0 r1 h7 f7 => ?_
          have m8 := m7.step h7 f7
          by_cases hr0 : r = 0
          · subst hr0
            simp [m8.at_, z5]
            refine ⟨st ++ [none], by simp; omega, fun fs hm => ?_, ?_⟩
            · rcases List.mem_append.mp hm with hm | hm
              · exact hrow fs hm
              · simp at hm
            · have := (m8.put (ys := st.map enc ++ [.int 0])).mono (B' := B + i * 80 + 2 + (j + 1) * 13) (by omega)
              simpa [enc] using this
          · simp [m8.at_, z5, hr0]
            refine ⟨st ++ [some fs], by simp; omega, fun fs' hm => ?_, ?_⟩
            · rcases List.mem_append.mp hm with hm | hm
              · exact hrow fs' hm
              · simp at hm; subst hm; exact ⟨fs0, fs6, hfs⟩
            · have := (m8.put (ys := st.map enc ++ [.tup (fs.map fr)])).mono (B' := B + i * 80 + 2 + (j + 1) * 13) (by omega)
              simpa [enc] using this
        · rintro σ g4 ⟨⟨o8, o9, rfl⟩, st, hst4, hrow, m5⟩
          rw [rng_len, Nat.zero_add] at hst4 m5
          have hst' : st.length = nums.length := by omega
          generalize hns : grow own (ns0 num) sts = ns at *
          have zn : szOk ns.length = true := sz_of (by omega)
          have t5 := m4.inner m5 (nr_enc · _)
          have hp := put_ok (v := .tup (ns.map fr)) m5.at_ (i := own) (by simp; omega)
          have m6 := m5.put (ys := (st.map enc).set own (.tup (ns.map fr)))
          rw [enc_set] at m6 hp
          have hso : StOk own (st.set own (some ns)) := st_ok hrow (by omega)
          have hrl := row_len (own := own) (ns := ns) hrow (by omega) (by omega)
          have hat : (st.set own (some ns))[own]? = some (some ns) := by rw [List.getElem?_set_self (by omega)]
          have hl2 : (st.set own (some ns)).length = nums.length := by simp [hst']
          generalize st.set own (some ns) = st2 at *
          generalize g4.set g3.length (st2.map enc) = g5 at *
          have t6 := m4.inner m6 (nr_enc · _)
          have t7 := t6.put2 (zs := toldD (sts ++ [st2]) []) (fun n => nr_told rfl)
          have a7 : (g5.set (g.length + 1) (toldD (sts ++ [st2]) []))[g3.length]? = some (st2.map enc) := by
            have := m4.len
            rw [List.getElem?_set_ne (by omega)]
            exact m6.at_
          have hlt5 : g.length + 1 < g5.length := by have := t6.len; omega
          have e5 : ∀ h, g5[g.length + 1]'h = toldD sts [.non] := fun h => by
            have := t6.a2
            rw [List.getElem?_eq_getElem h] at this
            exact Option.some.inj this
          have z2' : szOk st2.length = true := sz_of (by omega)
          have c6 := comp_thrR i (g5.set (g.length + 1) (toldD (sts ++ [st2]) [])) g3.length st2 [] none hrl (by simpa using a7)
          simp only [List.nil_append] at c6
          obtain ⟨f0, r, hfr⟩ : ∃ f0 r, thr i st2 = f0 :: r := by
            have : la ns ∈ thr i st2 := (thr_own hat (by omega) _).mpr (by simp)
            cases e : thr i st2 with
            | nil => rw [e] at this; simp at this
            | cons a b => exact ⟨a, b, rfl⟩
          have hdn : ∀ y ∈ f0 :: r, Dn y := fun y hy => by
            rw [← hfr] at hy
            have := (thr_own hat (by omega) y).mp hy
            rw [show i = ns.length - 1 by omega] at this
            exact nx_dn gd hso y this
          have hmid := nx_eq hat (by omega) hfr gd hso
          rw [hfr] at c6
          have f0d := hdn f0 (by simp)
          have e52n := ok52n (k := 56) (g := g5.set (g.length + 1) (toldD (sts ++ [st2]) [])) hdn
          have e52x := ok52x (k := 56) (g := g5.set (g.length + 1) (toldD (sts ++ [st2]) [])) hdn
          have e51 := ok51 (k := 55) (g := g5.set (g.length + 1) (toldD (sts ++ [st2]) [])) (dn_mn f0d hdn) (dn_mx f0d hdn)
          have hmid' : half (mn f0 (f0 :: r)) (mx f0 (f0 :: r)) = nx own ns st2 := hmid
          rw [hmid'] at e51
          have t8 := t7.put1 (zs := (ns ++ [nx own ns st2]).map fr) (fun _ => nr_fr _)
          have ga := grow_app (own := own) (st := st2) sts (ns0 num)
          rw [hns] at ga
          have hlt7 : g.length < (g5.set (g.length + 1) (toldD (sts ++ [st2]) [])).length := by have := t7.len; omega
          have e7 : ∀ h, (g5.set (g.length + 1) (toldD (sts ++ [st2]) []))[g.length]'h = ns.map fr := fun h => by
            have := t7.a1
            rw [List.getElem?_eq_getElem h] at this
            exact Option.some.inj this
          have zn1 : szOk (ns.length + 1) = true := sz_of (by omega)
          have sb : ∀ a b c d e f g h i j k : Option D, subS [none, some 6] [a, b, c, d, e, f, g, h, i, j, k] = [none, g] := fun _ _ _ _ _ _ _ _ _ _ _ => rfl
          have tb : toldD sts [.non] ++ [D.tup (st2.map enc)] = toldD (sts ++ [st2]) [] := told_b
          simp [t5.a1, zn, hp, hlt5, m6.at_, z2', e5, z4, tb]
          generalize g5.set (g.length + 1) (toldD (sts ++ [st2]) []) = g6 at *
          simp [a7, z2', sb]
          simp only [cThr, List.map_cons] at c6 e52n e52x
          rw [c6]
          simp [e52n, e52x, e51, hlt7, e7, zn1]
          exact ⟨sts ++ [st2], by simp; omega, fun s hs => by
            rcases List.mem_append.mp hs with hs | hs
            · exact hst s hs
            · simp at hs; subst hs; exact hso, by
              rw [ga]
              simpa using t8.mono (B' := B + (i + 1) * 80) (by omega)⟩
  · rintro σ gg ⟨⟨o6, o7, o8, o9, p1, rfl⟩, sts, hsl, hst, m1⟩
    rw [rng_len, Nat.zero_add] at hsl m1
    have gl : (grow own (ns0 num) sts).length = 1 + sts.length := grow_len sts (ns0 num)
    have gd : Gd (grow own (ns0 num) sts) := gd_grow sts (ns0 num) (gd0 (by omega)) hst (by simp [ns0]; omega)
    have hA : Ans own num rounds (.tup (toldD sts [])) (some (la (grow own (ns0 num) sts))) := .a2 (by omega) hst
    have hal := at_la gd.1
    have tl1 := told_len (sts := sts) (e := [])
    simp at tl1
    have z1 : szOk (toldD sts []).length = true := sz_of (by omega)
    have hf := m1.fin
    have h1 := hA.noR g.length
    have h2 := eO_noR (a := some (la (grow own (ns0 num) sts))) (n := g.length)
    have := q _ _ _ hA (hf.1.mono (by omega)) hf.2
    simp [m1.a2, z1, m1.a1, hal]
    exact ⟨by simp only [noR, noRs, eO] at h1 h2 ⊢; simp [h1, h2], fun x hx => (hc.fr hf.2 hf.1) x hx _, by have := m1.len; omega, this⟩
end K61
namespace K61
open PySem L3 L2 Pd
noncomputable def rngOk (lo hi : Int) (p : F2) : Bool := decide (lo * (p.2 : Int) ≤ p.1) && decide (p.1 ≤ hi * (p.2 : Int))
noncomputable def cls (br : Int) (r : Nat) (p q : F2) : Bool := decide (((p.1 * (q.2 : Int) - q.1 * (p.2 : Int)).natAbs : Int) * 2 ^ r ≤ br * (p.2 : Int) * (q.2 : Int))
noncomputable def fitB (lo hi : Int) (r : Nat) (as : List F2) : Bool := as.all (rngOk lo hi) && as.all fun p => as.all (cls (hi - lo) r p)
theorem all_and (c d : F2 → Bool) : ∀ as : List F2, (as.all fun p => c p && d p) = (as.all c && as.all d)
  | [] => rfl
  | a :: r => by
    simp only [List.all_cons, all_and c d r]
    cases c a <;> cases d a <;> simp
theorem pw {r : Nat} (h : r ≤ 6) : okPow 1 (r : Int) = true ∧ (1 : Int) * 2 ^ ((r : Int)).toNat = 2 ^ r ∧ ∀ i : Int, okMul i (2 ^ r) = true := by
  have : r = 0 ∨ r = 1 ∨ r = 2 ∨ r = 3 ∨ r = 4 ∨ r = 5 ∨ r = 6 := by omega
  rcases this with rfl | rfl | rfl | rfl | rfl | rfl | rfl
  all_goals exact ⟨by decide, by decide, fun i => okMul_r (by decide) (by decide)⟩
section
variable {k : Nat} {g : G} {p q : F2} {br : Int} {r : Nat}
theorem ok33 (hr : r ≤ 6) (hp : Dn p) (hq : Dn q) : tab (k + 1) 33 [fr p, fr q, .int br, .int (r : Nat)] g = some (.bl (cls br r p q), g) := by
  obtain ⟨w1, w2, w3⟩ := pw hr
  have ab : ∀ t : Int, bAbs [.int t] g = some (.int (t.natAbs : Nat), g) := fun t => abs_ev
  refine ev_run (σ' := [some (fr p), some (fr q), some (.int br), some (.int (r : Nat)), some (.int ((p.1 * (q.2 : Int) - q.1 * (p.2 : Int)).natAbs : Nat))]) rfl ?_ rfl
  have fp : fr p = .tup [.int p.1, .int (p.2 : Int)] := rfl
  have fq : fr q = .tup [.int q.1, .int (q.2 : Int)] := rfl
  simp only [b_33, List.map_cons, List.map_nil]
  simp [fp, fq, at_0, at_1, mulN hp.2, mulN hq.2, ab, w1, w3, cls]
theorem ok55 (hr : r ≤ 6) (hp : Dn p) (hq : Dn q) : tab (k + 1) 55 [fr p, fr q, .int br, .int (r : Nat)] g = some (.bl (cls br r p q), g) := by
  have run : wp (tab (k + 1) 55 [fr p, fr q, .int br, .int (r : Nat)] g) fun x => x = (.bl (cls br r p q), g) := by
    have ab : ∀ t : Int, bAbs [.int t] g = some (.int (t.natAbs : Nat), g) := fun t => abs_ev
    have fp : fr p = .tup [.int p.1, .int (p.2 : Int)] := rfl
    have fq : fr q = .tup [.int q.1, .int (q.2 : Int)] := rfl
    have m2 : ∀ i : Int, okMul 2 i = true := fun i => okMul_l (by decide) (by decide)
    refine wp_run rfl ?_
    simp only [b_55, List.map_cons, List.map_nil, ev_fSeq, wp_bind]
    simp [fp, fq, at_0, at_1, mulN hp.2, mulN hq.2, ab]
    refine iR1_w ?_
    simp
    refine ⟨by omega, ?_⟩
    refine wp_forL (fun i σ gg => gg = g ∧ ∃ o6, σ = [some (fr p), some (fr q), some (.int br), some (.int (r : Nat)), some (.int (((p.1 * (q.2 : Int) - q.1 * (p.2 : Int)).natAbs : Int) * 2 ^ i)), some (.int (br * (p.2 : Int) * (q.2 : Int))), o6]) _ 0 _ _ ⟨rfl, none, by simp [fp, fq]⟩ ?_ ?_
    · rintro i d σ gg hdi ⟨rfl, o6, rfl⟩
      obtain ⟨hi, rfl⟩ := rng_get0 hdi
      rw [Nat.zero_add] at *
      simp [m2]
      rw [Int.pow_succ]
      ac_rfl
    · rintro σ gg ⟨rfl, o6, rfl⟩
      rw [rng_len, Nat.zero_add]
      simp [cls]
  obtain ⟨x, e, h⟩ := run
  subst h
  exact e
end
noncomputable abbrev NearOk (N : Fn) (r : Nat) : Prop := ∀ (p q : F2) (br : Int) (g : G), Dn p → Dn q → N [fr p, fr q, .int br, .int (r : Nat)] g = some (.bl (cls br r p q), g)
theorem comp_near {N : Fn} {r : Nat} (hN : NearOk N r) {p : F2} (hp : Dn p) (hi lo : Int) (g : G) : ∀ (as : List F2) (o : Option D), (∀ a ∈ as, Dn a) → compL (gN 0) fTrue (fCall N (fCons (fVar 1) (fCons (fVar 0) (fCons (fOp (iOp okAny (· - ·)) (fVar 2) (fVar 3)) (fCons (fVar 4) (fNil)))))) (as.map fr) [o, some (fr p), some (.int hi), some (.int lo), some (.int (r : Nat))] g = some (as.map fun q => .bl (cls (hi - lo) r p q), g)
  | [], o, _ => rfl
  | a :: as, o, h => by
    have := comp_near hN hp hi lo g as (some (fr a)) fun x hx => h x (by simp [hx])
    have e := hN p a (hi - lo) g hp (h a (by simp))
    simp [compL, this, e]
theorem comp_rng (lo hi : Int) (g : G) : ∀ (as : List F2) (o o2 : Option D), (∀ a ∈ as, Dn a) → compL (gT 2 (gConss (gN 0) (gConss (gN 1) (gNils)))) (fTrue) (fChain oLe oLe (fOp oMul (fVar 2) (fVar 1)) (fVar 0) (fOp oMul (fVar 3) (fVar 1))) (as.map fr) [o, o2, some (.int lo), some (.int hi)] g = some (as.map fun q => .bl (rngOk lo hi q), g)
  | [], o, o2, _ => rfl
  | a :: as, o, o2, h => by
    have := comp_rng lo hi g as (some (.int a.1)) (some (.int (a.2 : Int))) fun x hx => h x (by simp [hx])
    have m := (h a (by simp)).2
    by_cases h1 : lo * (a.2 : Int) ≤ a.1
    · by_cases h2 : a.1 ≤ hi * (a.2 : Int) <;> simp [compL, fr, mulN m, h1, h2, rngOk] at this ⊢ <;> simp [this]
    · simp [compL, fr, mulN m, h1, rngOk] at this ⊢
      simp [this]
theorem for_all {c : F2 → Bool} {body : FS} {a b d e f : Option D} {g : G} : ∀ (xs : List F2) (o : Option D), (∀ p ∈ xs, body [a, b, d, e, f, some (fr p)] g = some (if c p = true then .nx else .rt (.bl false), [a, b, d, e, f, some (fr p)], g)) → ∃ o', forL (gN 5) body (xs.map fr) [a, b, d, e, f, o] g = some (if xs.all c = true then .nx else .rt (.bl false), [a, b, d, e, f, o'], g)
  | [], o, _ => ⟨o, rfl⟩
  | x :: xs, o, h => by
    obtain ⟨o', e⟩ := for_all (c := c) xs (some (fr x)) fun p hp => h p (by simp [hp])
    have e1 := h x (by simp)
    cases hx : c x with
    | true =>
      refine ⟨o', ?_⟩
      rw [hx] at e1
      have hxs : (x :: xs).all c = xs.all c := by rw [List.all_cons, hx, Bool.true_and]
      rw [hxs]
      simp [forL, e1, e]
    | false =>
      refine ⟨some (fr x), ?_⟩
      rw [hx] at e1
      simp [forL, e1, hx]
noncomputable def l32 (N : Fn) : FS := fIf (fNot (fTru (fCall bAll (fCons (fComp cLst (iSeq (fVar 0)) [none, some 5, some 4, some 3, some 2] (gN 0) (fTrue) (fCall N (fCons (fVar 1) (fCons (fVar 0) (fCons (fOp (iOp okAny (· - ·)) (fVar 2) (fVar 3)) (fCons (fVar 4) (fNil))))))) (fNil))))) (fRet (fC (.bl false))) (fSkip)
section
variable {r : Nat} {lo hi : Int} {as : List F2} {nums : List Int} {g : G}
theorem sb5 {a b c d e f : Option D} : subS [none, some 5, some 4, some 3, some 2] [a, b, c, d, e, f] = [none, f, e, d, c] := rfl
theorem l32_ev {N : Fn} {x : Option D} (hN : NearOk N r) (hl : as.length ≤ 100) (ha : ∀ a ∈ as, Dn a) {p : F2} (hp : Dn p) : l32 N [some (.lst (as.map fr)), x, some (.int (r : Nat)), some (.int lo), some (.int hi), some (fr p)] g = some (if as.all (cls (hi - lo) r p) = true then .nx else .rt (.bl false), [some (.lst (as.map fr)), x, some (.int (r : Nat)), some (.int lo), some (.int hi), some (fr p)], g) := by
  have c := comp_near hN hp hi lo g as none ha
  have z : szOk as.length = true := sz_of (by omega)
  have hb := bools_map (cls (hi - lo) r p) as
  have hid : (as.map (cls (hi - lo) r p)).all id = as.all (cls (hi - lo) r p) := by rw [List.all_map]; rfl
  generalize as.all (cls (hi - lo) r p) = v at *
  generalize as.map (cls (hi - lo) r p) = w at *
  simp [l32, sb5, z, c, hb, hid]
  cases v <;> simp
theorem ok32 {k : Nat} (hr : r ≤ 6) (hl : as.length ≤ 100) (ha : ∀ a ∈ as, Dn a) (h1 : nums.min? = some lo) (h2 : nums.max? = some hi) : tab (k + 2) 32 [.lst (as.map fr), .lst (nums.map .int), .int (r : Nat)] g = some (.bl (fitB lo hi r as), g) := by
  have hN : NearOk (tab (k + 1) 33) r := fun p q br g hp hq => ok33 hr hp hq
  have c := comp_rng lo hi g as none none ha
  have z : szOk as.length = true := sz_of (by omega)
  have hb := bools_map (rngOk lo hi) as
  have hid : (as.map (rngOk lo hi)).all id = as.all (rngOk lo hi) := by rw [List.all_map]; rfl
  obtain ⟨o', e⟩ := for_all (c := fun p => as.all (cls (hi - lo) r p)) (a := some (.lst (as.map fr))) (b := some (.lst (nums.map .int))) (d := some (.int (r : Nat))) (e := some (.int lo)) (f := some (.int hi)) (g := g) as none fun p hp => l32_ev hN hl ha (ha p hp)
  have b32 : b_32 (tab (k + 1)) = fSeq (fAsg (fCall bMinL (fCons (fVar 1) (fNil))) (gN 3)) (fSeq (fAsg (fCall bMaxL (fCons (fVar 1) (fNil))) (gN 4)) (fSeq (fIf (fNot (fTru (fCall bAll (fCons (fComp cLst (iSeq (fVar 0)) [none, none, some 3, some 4] (gT 2 (gConss (gN 0) (gConss (gN 1) (gNils)))) (fTrue) (fChain oLe oLe (fOp oMul (fVar 2) (fVar 1)) (fVar 0) (fOp oMul (fVar 3) (fVar 1)))) (fNil))))) (fRet (fC (.bl false))) (fSkip)) (fSeq (fFor (iSeq (fVar 0)) (gN 5) (l32 (tab (k + 1) 33))) (fRet (fC (.bl true)))))) := rfl
  have sb4 : ∀ a b c d e f : Option D, subS [none, none, some 3, some 4] [a, b, c, d, e, f] = [none, none, d, e] := fun _ _ _ _ _ _ => rfl
  have im := ints_map nums
  have run : wp (tab (k + 2) 32 [.lst (as.map fr), .lst (nums.map .int), .int (r : Nat)] g) fun x => x = (.bl (fitB lo hi r as), g) := by
    refine wp_run rfl ?_
    rw [b32]
    unfold fitB
    generalize (as.all fun p => as.all (cls (hi - lo) r p)) = u at *
    generalize as.all (rngOk lo hi) = v at *
    generalize hw : as.map (rngOk lo hi) = w at *
    simp only [List.map_cons, List.map_nil, ev_fSeq, wp_bind]
    simp [lstOf, im, h1, h2, sb4, z, c, hb, hid]
    cases v with
    | false => simp
    | true =>
      simp [e]
      cases u <;> simp
  obtain ⟨x, e, h⟩ := run
  subst h
  exact e
noncomputable def l56 (N : Fn) : FS := fSeq (fIf (fNot (fTest (fChain oLe oLe (fOp oMul (fVar 3) (fOp oIx (fVar 5) (fC (.int 1)))) (fOp oIx (fVar 5) (fC (.int 0))) (fOp oMul (fVar 4) (fOp oIx (fVar 5) (fC (.int 1))))))) (fRet (fC (.bl false))) (fSkip)) (l32 N)
theorem l56_ev {N : Fn} {x : Option D} (hN : NearOk N r) (hl : as.length ≤ 100) (ha : ∀ a ∈ as, Dn a) {p : F2} (hp : Dn p) : l56 N [some (.lst (as.map fr)), x, some (.int (r : Nat)), some (.int lo), some (.int hi), some (fr p)] g = some (if (rngOk lo hi p && as.all (cls (hi - lo) r p)) = true then .nx else .rt (.bl false), [some (.lst (as.map fr)), x, some (.int (r : Nat)), some (.int lo), some (.int hi), some (fr p)], g) := by
  have e := l32_ev (g := g) (lo := lo) (hi := hi) (x := x) hN hl ha hp
  have fp : fr p = .tup [.int p.1, .int (p.2 : Int)] := rfl
  generalize as.all (cls (hi - lo) r p) = v at *
  generalize as.map fr = w at *
  rw [fp] at e ⊢
  by_cases h1 : lo * (p.2 : Int) ≤ p.1
  · by_cases h2 : p.1 ≤ hi * (p.2 : Int) <;> simp [l56, at_0, at_1, mulN hp.2, h1, h2, rngOk, e]
  · simp [l56, at_0, at_1, mulN hp.2, h1, rngOk]
theorem ok56 {k : Nat} (hr : r ≤ 6) (hl : as.length ≤ 100) (ha : ∀ a ∈ as, Dn a) (h1 : nums.min? = some lo) (h2 : nums.max? = some hi) : tab (k + 2) 56 [.lst (as.map fr), .lst (nums.map .int), .int (r : Nat)] g = some (.bl (fitB lo hi r as), g) := by
  have hN : NearOk (tab (k + 1) 55) r := fun p q br g hp hq => ok55 hr hp hq
  have z : szOk as.length = true := sz_of (by omega)
  obtain ⟨o', e⟩ := for_all (c := fun p => rngOk lo hi p && as.all (cls (hi - lo) r p)) (a := some (.lst (as.map fr))) (b := some (.lst (nums.map .int))) (d := some (.int (r : Nat))) (e := some (.int lo)) (f := some (.int hi)) (g := g) as none fun p hp => l56_ev hN hl ha (ha p hp)
  have b56 : b_56 (tab (k + 1)) = fSeq (fAsg (fMk mkTup (fCons (fCall bMinL (fCons (fVar 1) (fNil))) (fCons (fCall bMaxL (fCons (fVar 1) (fNil))) (fNil)))) (gT 2 (gConss (gN 3) (gConss (gN 4) (gNils))))) (fSeq (fFor (iSeq (fVar 0)) (gN 5) (l56 (tab (k + 1) 55))) (fRet (fC (.bl true)))) := rfl
  have im := ints_map nums
  rw [all_and] at e
  have run : wp (tab (k + 2) 56 [.lst (as.map fr), .lst (nums.map .int), .int (r : Nat)] g) fun x => x = (.bl (fitB lo hi r as), g) := by
    refine wp_run rfl ?_
    rw [b56]
    have hu : fitB lo hi r as = (as.all (rngOk lo hi) && as.all fun p => as.all (cls (hi - lo) r p)) := rfl
    rw [← hu] at e
    generalize fitB lo hi r as = u at *
    simp only [List.map_cons, List.map_nil, ev_fSeq, wp_bind]
    simp [lstOf, im, h1, h2, z, e]
    cases u <;> simp
  obtain ⟨x, e, h⟩ := run
  subst h
  exact e
end
end K61
namespace K61
open PySem L3 L2 Pd
theorem eO_n : eO none = .non := rfl
theorem eO_s {a : F2} : eO (some a) = .tup [.int a.1, .int (a.2 : Int)] := rfl
noncomputable abbrev Tr := Int × D × Option F2
noncomputable def jb (w : Nat) (t : Tr) : D := .tup [.str "closer", .int t.1, .int (w : Nat)]
noncomputable def rw_ (t : Tr) : D := .tup [t.2.1, .tup [], .tup []]
theorem comp_ans {w : Nat} {k : Nat} (hw : w ≤ 6) (g : G) : ∀ (qs pre : List Tr) (o0 o1 : Option D), (∀ j t, qs[j]? = some t → t.1.natAbs ≤ 40 ∧ Ans (pre.length + j) t.1 w t.2.1 t.2.2) → compL (gT 2 (gConss (gN 0) (gConss (gN 1) gNils))) fTrue (fCall (tab (k + 7) 23) (fCons (fVar 0) (fCons (fVar 1) (fCons (fOp oIx (fOp oIx (fVar 2) (fVar 0)) (fC (.int 0))) fNil)))) (((qs.map (jb w)).zipIdx pre.length).map fun p => D.tup [.int (p.2 : Nat), p.1]) [o0, o1, some (.tup ((pre ++ qs).map rw_))] g = some (qs.map fun t => eO t.2.2, g)
  | [], pre, o0, o1, _ => rfl
  | t :: qs, pre, o0, o1, h => by
    have := comp_ans (k := k) hw g qs (pre ++ [t]) (some (.int pre.length)) (some (jb w t)) fun j x hx => by
      have := h (j + 1) x (by simpa using hx)
      rw [List.length_append, List.length_singleton, show pre.length + 1 + j = pre.length + (j + 1) by omega]
      exact this
    simp only [List.append_assoc, List.singleton_append, List.length_append, List.length_singleton] at this
    have ha : atI ((pre ++ t :: qs).map rw_) (pre.length : Int) = some (rw_ t) := at_nat (by simp)
    have hb : atI [t.2.1, .tup [], .tup []] 0 = some t.2.1 := rfl
    have h0 := h 0 t (by simp)
    have hc := ans_of (own := pre.length) (num := t.1) (g := g) (k := k) hw h0.1 h0.2
    simp only [List.map_append, List.map_cons] at this ha
    simp only [jb, rw_] at this ha hc
    simp [compL, this, ha, hb, hc, jb, rw_]
theorem comp_some (g : G) : ∀ (is : List (Option F2)) (o : Option D), compL (gN 0) (fTest (fOp oIsnt (fVar 0) (fC .non))) (fVar 0) (is.map eO) [o] g = some ((is.filterMap id).map fr, g)
  | [], o => rfl
  | none :: is, o => by
    have := comp_some g is (some .non)
    simp [compL, eO_n, eO_s, isNon, this]
  | some v :: is, o => by
    have := comp_some g is (some (eO (some v)))
    rw [eO_s] at this
    simp [compL, eO_n, eO_s, isNon, this, fr]
theorem comp_some2 (g : G) : ∀ (qs : List Tr) (o o2 : Option D), compL (gT 2 (gConss (gN 0) (gConss (gN 1) gNils))) (fTest (fOp oIsnt (fVar 1) (fC .non))) (fVar 1) (qs.map fun t => .tup [t.2.1, eO t.2.2]) [o, o2] g = some ((qs.filterMap (·.2.2)).map fr, g)
  | [], o, o2 => rfl
  | (v, t, none) :: is, o, o2 => by
    have := comp_some2 g is (some t) (some .non)
    simp [compL, eO_n, eO_s, isNon, this]
  | (v, t, some a) :: is, o, o2 => by
    have := comp_some2 g is (some t) (some (eO (some a)))
    rw [eO_s] at this
    simp [compL, eO_n, eO_s, isNon, this, fr]
theorem comp_rows (g : G) : ∀ (qs : List Tr) (o o2 : Option D), compL (gT 2 (gConss (gN 0) (gConss (gN 1) gNils))) fTrue (fMk mkTup (fCons (fVar 0) (fCons (fMk mkTup fNil) (fCons (fMk mkTup fNil) fNil)))) (qs.map fun t => .tup [t.2.1, eO t.2.2]) [o, o2] g = some (qs.map rw_, g)
  | [], o, o2 => rfl
  | (v, t, a) :: is, o, o2 => by
    have := comp_rows g is (some t) (some (eO a))
    simp [compL, this, rw_]
theorem comp_jobs (w : Nat) (g : G) : ∀ (ns : List Int) (o : Option D), compL (gN 0) fTrue (fMk mkTup (fCons (fC (.str "closer")) (fCons (fVar 0) (fCons (fVar 1) fNil)))) (ns.map .int) [o, some (.int (w : Nat))] g = some (ns.map fun v => .tup [.str "closer", .int v, .int (w : Nat)], g)
  | [], o => rfl
  | v :: ns, o => by
    have := comp_jobs w g ns (some (.int v))
    simp [compL, this]
theorem comp_nums (w : Nat) (g : G) : ∀ (qs : List Tr) (o : Option D), compL (gN 0) fTrue (fOp oIx (fVar 0) (fC (.int 1))) (qs.map (jb w)) [o] g = some ((qs.map (·.1)).map .int, g)
  | [], o => rfl
  | t :: qs, o => by
    have := comp_nums w g qs (some (jb w t))
    have hb : atI [D.str "closer", .int t.1, .int (w : Nat)] 1 = some (.int t.1) := rfl
    simp only [jb] at this
    simp at this
    simp [compL, this, jb, hb]
theorem ok27 {w : Nat} {k : Nat} {g : G} {bx : D} {qs : List Tr} (hw : w ≤ 6) (hl : qs.length ≤ 100) (h : ∀ j t, qs[j]? = some t → t.1.natAbs ≤ 40 ∧ Ans j t.1 w t.2.1 t.2.2) : tab (k + 8) 27 [.tup (qs.map (jb w)), .tup [bx, .tup (qs.map rw_)]] g = some (.lst (qs.map fun t => eO t.2.2), g) := by
  have c := comp_ans (k := k) hw g qs [] none none (by simpa using h)
  have z : szOk qs.length = true := sz_of (by omega)
  have e : enumD (qs.map (jb w)) = ((qs.map (jb w)).zipIdx 0).map fun p => D.tup [.int (p.2 : Nat), p.1] := rfl
  have sb : ∀ a b c : Option D, subS [none, none, some 2] [a, b, c] = [none, none, c] := fun _ _ _ => rfl
  have zl : ∀ xs : List D, (enumD xs).length = xs.length := fun xs => by simp [enumD]
  simp only [List.nil_append, List.length_nil] at c
  refine ev_run (σ' := [some (.tup (qs.map (jb w))), some (.tup [bx, .tup (qs.map rw_)]), some (.tup (qs.map rw_))]) rfl ?_ rfl
  simp [b_27, at2_1, sb, zl, z]
  rw [e, c]
  rfl
theorem ans_dn {own w : Nat} {num : Int} {t : D} {p : F2} (hw : w ≤ 6) (hn : num.natAbs ≤ 40) (h : Ans own num w t (some p)) : Dn p := by
  cases h with
  | @a2 sts h1 h2 =>
    have gd : Gd (grow own (ns0 num) sts) := gd_grow sts (ns0 num) (gd0 (by omega)) h2 (by simp [ns0]; omega)
    exact (gd.2.2 _ (la_mem gd.1)).dn (by have := gd.2.1; omega)
theorem ok29 {w : Nat} {lo hi : Int} {g : G} {bx m : D} {qs : List Tr} (hw : w ≤ 6) (hl : qs.length ≤ 100) (hq : 0 < qs.length) (ha : ∀ j t, qs[j]? = some t → t.1.natAbs ≤ 40 ∧ Ans j t.1 w t.2.1 t.2.2) (h1 : (qs.map (·.1)).min? = some lo) (h2 : (qs.map (·.1)).max? = some hi) :
    tab 58 29 [m, .tup (qs.map (jb w)), .tup [bx, .tup (qs.map rw_)]] g = some (.bl (fitB lo hi w (qs.filterMap (·.2.2))), g) := by
  have e27 := ok27 (k := 49) (g := g) (bx := bx) hw hl ha
  have cs := comp_some g (qs.map (·.2.2)) none
  have cn := comp_nums w g qs none
  have z : szOk qs.length = true := sz_of (by omega)
  have sb : ∀ σ : Sg, subS [none] σ = [none] := fun _ => rfl
  have ef : (qs.map (·.2.2)).filterMap id = qs.filterMap (·.2.2) := by rw [List.filterMap_map]; rfl
  rw [ef, List.map_map] at cs
  have cs' : compL (gN 0) (fTest (fOp oIsnt (fVar 0) (fC .non))) (fVar 0) (qs.map fun t => eO t.2.2) [none] g = some ((qs.filterMap (·.2.2)).map fr, g) := cs
  have al : (qs.filterMap (·.2.2)).length ≤ 100 := Nat.le_trans (List.length_filterMap_le _ _) hl
  have dn : ∀ a ∈ qs.filterMap (·.2.2), Dn a := fun a hm => by
    rw [List.mem_filterMap] at hm
    obtain ⟨t, ht, hta⟩ := hm
    obtain ⟨j, hj⟩ := List.mem_iff_getElem?.mp ht
    have := ha j t hj
    rw [hta] at this
    exact ans_dn hw this.1 this.2
  have e32 := ok32 (k := 55) (nums := qs.map (·.1)) (g := g) hw al dn h1 h2
  obtain ⟨t0, r, rfl⟩ : ∃ t0 r, qs = t0 :: r := by
    match qs, hq with
    | t0 :: r, _ => exact ⟨t0, r, rfl⟩
  have a0 : atI ((t0 :: r).map (jb w)) 0 = some (jb w t0) := at_nat (n := 0) rfl
  have a1 : atI [D.str "closer", .int t0.1, .int (w : Nat)] 0 = some (.str "closer") := rfl
  have a2 : atI [D.str "closer", .int t0.1, .int (w : Nat)] 2 = some (.int (w : Nat)) := rfl
  generalize hJ : (t0 :: r).map (jb w) = J at *
  generalize hR : (t0 :: r).map rw_ = R at *
  have hJl : J.length = (t0 :: r).length := by rw [← hJ]; simp
  refine ev_run (σ' := [some m, some (.tup J), some (.tup [bx, .tup R]), some (.lst (((t0 :: r).filterMap (·.2.2)).map fr)), some (.str "closer")]) rfl ?_ rfl
  have z' : szOk (r.length + 1) = true := by simpa using z
  generalize hN : (t0 :: r).map (·.1) = N at *
  generalize hF : (t0 :: r).filterMap (·.2.2) = F at *
  simp only [jb] at a0
  generalize hE : ((t0 :: r).map fun t => eO t.2.2) = E2 at *
  have hEl : E2.length = (t0 :: r).length := by rw [← hE]; simp
  simp [b_29, e27, sb, z, z', hEl, hJl, cs', a0, a1, a2, w2, w3, cn, e32]
section
variable {J t d : D} {g : G} {k h : Nat}
theorem comp_rep (hA : ∀ own : Nat, tab k 23 [.int own, J, t] g = some (d, g)) (R : List D) (hR : ∀ j : Nat, j < h → atI R (j : Int) = some (.tup [t, .tup [], .tup []])) : ∀ (n i : Nat) (o0 o1 : Option D), i + n ≤ h → compL (gT 2 (gConss (gN 0) (gConss (gN 1) gNils))) fTrue (fCall (tab k 23) (fCons (fVar 0) (fCons (fVar 1) (fCons (fOp oIx (fOp oIx (fVar 2) (fVar 0)) (fC (.int 0))) fNil)))) (((List.replicate n J).zipIdx i).map fun p => D.tup [.int (p.2 : Nat), p.1]) [o0, o1, some (.tup R)] g = some (List.replicate n d, g)
  | 0, i, o0, o1, _ => rfl
  | n + 1, i, o0, o1, hl => by
    have := comp_rep hA R hR n (i + 1) (some (.int i)) (some J) (by omega)
    have hb : atI [t, .tup [], .tup []] 0 = some t := rfl
    rw [List.replicate_succ, List.replicate_succ]
    simp [compL, this, hR i (by omega), hb, hA i]
theorem comp_nn (hd : isNon d = false) : ∀ (n : Nat) (o : Option D), compL (gN 0) (fTest (fOp oIsnt (fVar 0) (fC .non))) (fVar 0) (List.replicate n d) [o] g = some (List.replicate n d, g)
  | 0, o => rfl
  | n + 1, o => by
    have := comp_nn hd n (some d)
    rw [List.replicate_succ]
    cases d <;> simp [compL, isNon, this] at hd ⊢
theorem at_rep {x : D} {j : Nat} (hj : j < h) : atI (List.replicate h x) (j : Int) = some x := at_nat (by rw [List.getElem?_replicate, if_pos hj])
theorem fit_rep {w : Str} {x : List D} {m bx : D} (hA : ∀ own : Nat, tab 56 23 [.int own, .tup (.str w :: x), t] g = some (d, g)) (hd : isNon d = false) (h0 : 0 < h) (h5 : h ≤ 5) (w1 : (w == Str.ofString "name") = false) (w2 : (w == Str.ofString "least") = false) (w3 : (w == Str.ofString "closer") = false) :
    tab 58 29 [m, .tup (List.replicate h (.tup (.str w :: x))), .tup [bx, .tup (List.replicate h (.tup [t, .tup [], .tup []]))]] g = some (.bl true, g) := by
  have z : szOk h = true := sz_of (by omega)
  have c := comp_rep (k := 56) (h := h) hA (List.replicate h (.tup [t, .tup [], .tup []])) (fun j hj => at_rep hj) h 0 none none (by omega)
  have c2 := comp_nn (g := g) hd h none
  have sb1 : ∀ σ : Sg, subS [none] σ = [none] := fun _ => rfl
  have sb : ∀ a b c : Option D, subS [none, none, some 2] [a, b, c] = [none, none, c] := fun _ _ _ => rfl
  have zl : ∀ xs : List D, (enumD xs).length = xs.length := fun xs => by simp [enumD]
  have e : ∀ xs : List D, enumD xs = (xs.zipIdx 0).map fun p => D.tup [.int (p.2 : Nat), p.1] := fun xs => rfl
  have e27 : tab 57 27 [.tup (List.replicate h (.tup (.str w :: x))), .tup [bx, .tup (List.replicate h (.tup [t, .tup [], .tup []]))]] g = some (.lst (List.replicate h d), g) := by
    refine ev_run (σ' := [some (.tup (List.replicate h (.tup (.str w :: x)))), some (.tup [bx, .tup (List.replicate h (.tup [t, .tup [], .tup []]))]), some (.tup (List.replicate h (.tup [t, .tup [], .tup []])))]) rfl ?_ rfl
    simp [b_27, at2_1, sb, zl, z]
    rw [e, c]
    rfl
  have a0 : atI (List.replicate h (D.tup (.str w :: x))) 0 = some (.tup (.str w :: x)) := at_rep (j := 0) h0
  have a1 : atI (D.str w :: x) 0 = some (.str w) := at_c
  refine ev_run (σ' := [some m, some (.tup (List.replicate h (.tup (.str w :: x)))), some (.tup [bx, .tup (List.replicate h (.tup [t, .tup [], .tup []]))]), some (.lst (List.replicate h d)), some (.str w)]) rfl ?_ rfl
  simp [b_29, e27, sb1, z, c2, a0, a1, w1, w2, w3]
end
end K61
namespace K61
open PySem L3 L2 Pd
theorem m4_in {i : Int} (h0 : 0 ≤ i) (h1 : i < 4) : 1 + i ∈ ([1, 2, 3, 4] : List Int) := by
  have : i = 0 ∨ i = 1 ∨ i = 2 ∨ i = 3 := by omega
  rcases this with rfl | rfl | rfl | rfl <;> decide
theorem m2_in {i : Int} (h0 : 0 ≤ i) (h1 : i < 2) : i ∈ ([0, 1] : List Int) := by
  have : i = 0 ∨ i = 1 := by omega
  rcases this with rfl | rfl <;> decide
theorem tn_in {d : D} (h : d ∈ [D.int 0, .int 0, .int 2, .int 9]) : ∃ t : Int, t ∈ ([0, 2, 9] : List Int) ∧ d = .int t := by
  simp only [List.mem_cons, List.not_mem_nil, or_false] at h
  rcases h with rfl | rfl | rfl | rfl
  · exact ⟨0, by decide, rfl⟩
  · exact ⟨0, by decide, rfl⟩
  · exact ⟨2, by decide, rfl⟩
  · exact ⟨9, by decide, rfl⟩
theorem in_once {h : Int} : D.tup [.str "once", .int h] ∈ mansOf h := List.mem_append_left _ (List.mem_append_left _ (List.mem_append_left _ (List.mem_cons_self ..)))
theorem in_twice {h t : Int} (ht : t ∈ ([0, 2, 9] : List Int)) : D.tup [.str "twice", .int h, .int t] ∈ mansOf h := List.mem_append_left _ (List.mem_append_left _ (List.mem_append_right _ (List.mem_map.mpr ⟨t, ht, rfl⟩)))
theorem in_handed {h t m : Int} (ht : t ∈ ([0, 2, 9] : List Int)) (hm : m ∈ ([1, 2, 3, 4] : List Int)) : D.tup [.str "handed", .int h, .int t, .int m] ∈ mansOf h := List.mem_append_left _ (List.mem_append_right _ (List.mem_flatMap.mpr ⟨t, ht, List.mem_map.mpr ⟨m, hm, rfl⟩⟩))
theorem in_signs {h a b m : Int} (ha : a ∈ ([0, 1] : List Int)) (hb : b ∈ ([0, 1] : List Int)) (hm : m ∈ ([1, 2, 3, 4] : List Int)) : D.tup [.str "signs", .int h, .int a, .int b, .int m] ∈ mansOf h := List.mem_append_right _ (List.mem_flatMap.mpr ⟨a, ha, List.mem_flatMap.mpr ⟨b, hb, List.mem_map.mpr ⟨m, hm, rfl⟩⟩⟩)
theorem a4_0 {a b c d : D} : atI [a, b, c, d] 0 = some a := rfl
theorem a4_1 {a b c d : D} : atI [a, b, c, d] 1 = some b := rfl
theorem a4_2 {a b c d : D} : atI [a, b, c, d] 2 = some c := rfl
theorem a4_3 {a b c d : D} : atI [a, b, c, d] 3 = some d := rfl
theorem at_4 {h way tg sh mv : Int} {tn : D} (w0 : 0 ≤ way) (w1 : way < 4) (ht : tn ∈ [D.int 0, .int 0, .int 2, .int 9]) (b0 : 0 ≤ mv) (b1 : mv < 4) (c0 : 0 ≤ tg) (c1 : tg < 2) (d0 : 0 ≤ sh) (d1 : sh < 2) : ∃ m, atI [D.tup [.str "once", .int h], .tup [.str "twice", .int h, tn], .tup [.str "handed", .int h, tn, .int (1 + mv)], .tup [.str "signs", .int h, .int tg, .int sh, .int (1 + mv)]] way = some m ∧ m ∈ mansOf h := by
  obtain ⟨t, ht2, rfl⟩ := tn_in ht
  have way4 : way = 0 ∨ way = 1 ∨ way = 2 ∨ way = 3 := by omega
  rcases way4 with rfl | rfl | rfl | rfl
  · exact ⟨_, a4_0, in_once⟩
  · exact ⟨_, a4_1, in_twice ht2⟩
  · exact ⟨_, a4_2, in_handed ht2 (m4_in b0 b1)⟩
  · exact ⟨_, a4_3, in_signs (m2_in c0 c1) (m2_in d0 d1) (m4_in b0 b1)⟩
theorem man_w {n : Nat} {h : Int} {g : G} {B : Int} {Q : D × G → Prop} (hB : B + 10 < 2 ^ 40) (hd : Hd g n B) (q : ∀ m g', m ∈ mansOf h → Hd g' n (B + 5) → Fr n g g' → Q (m, g')) : wp (tab 58 49 [.ref n, .int h] g) Q := by
  refine wp_run rfl ?_
  simp [b_49]
  refine (okT 56).w (by omega) (by decide) (by decide) hd fun way g1 a0 a1 h1 f1 => ?_
  simp
  refine (okP 55).w (by omega) (by simp) (by simp) h1 fun tn g2 hdm h2 f2 => ?_
  simp
  refine (okT 56).w (by omega) (by decide) (by decide) h2 fun mv g3 b0 b1 h3 f3 => ?_
  simp
  refine (okT 56).w (by omega) (by decide) (by decide) h3 fun tg g4 c0 c1 h4 f4 => ?_
  simp
  refine (okT 56).w (by omega) (by decide) (by decide) h4 fun sh g5 d0 d1 h5 f5 => ?_
  have ff := (((f1.trans f2).trans f3).trans f4).trans f5
  obtain ⟨m, em, hm⟩ := at_4 (h := h) a0 a1 hdm b0 b1 c0 c1 d0 d1
  simp [em]
  exact ⟨ff.1, q _ _ hm (h5.mono (by omega)) ff⟩
theorem ok58 {b : Bool} {k : Nat} {g : G} : tab (k + 1) 58 [.bl b, .bl b] g = some (.bl true, g) := by
  have e : eqD (.bl b) (.bl b) = true := by cases b <;> rfl
  have f : flat (.bl b) = true := rfl
  have d : dep (.bl b) = 0 := rfl
  exact ev_run (σ' := [some (.bl b), some (.bl b)]) rfl (by simp [b_58, isI, e, f, d]) rfl
theorem ok44 {h : Int} {m J : D} {g : G} (h1 : 1 ≤ h) (h5 : h ≤ 5) (hm : m ∈ mansOf h) : ∃ bx r, tab 58 44 [m, J] g = some (.tup [bx, r], g) := by
  obtain ⟨bx, nb, e⟩ := man_boxes h1 h5 hm
  have eh := man_hands h1 h5 hm g
  have : ∃ r, oMul (.tup [.tup [.tup [], .tup [], .tup []]]) (.int h) g = some (r, g) := by
    have : h = 1 ∨ h = 2 ∨ h = 3 ∨ h = 4 ∨ h = 5 := by omega
    rcases this with rfl | rfl | rfl | rfl | rfl <;> exact ⟨_, rfl⟩
  obtain ⟨r, er⟩ := this
  exact ⟨bx, r, ev_run (σ' := [some m, some J]) rfl (by simp [b_44, e, eh, er]) rfl⟩
theorem mm_some {l : List Int} (h : 0 < l.length) : ∃ lo hi, l.min? = some lo ∧ l.max? = some hi := by
  match l, h with
  | a :: r, _ => exact ⟨_, _, rfl, rfl⟩
section
variable {g : G} {own : Nat}
theorem sw1 : (Str.ofString "deeds" == Str.ofString "sums") = false := by decide
theorem sw2 : (Str.ofString "deeds" == Str.ofString "name") = false := by decide
theorem sw3 : (Str.ofString "deeds" == Str.ofString "least") = false := by decide
theorem sw4 : (Str.ofString "deeds" == Str.ofString "closer") = false := by decide
theorem sums_a {xs : List Int} : tab 56 23 [.int own, .tup [.str "sums", .tup [.int 1, .non]], .tup [.non, .tup (xs.map .int)]] g = some (.tup [.int xs.sum], g) := by
  have im := ints_map xs
  have e20 : tab 54 20 [.int own, .tup [.int 1, .non], .tup [.non, .tup (xs.map .int)]] g = some (.tup [.non, .tup [.int xs.sum]], g) := by
    have sb : ∀ a b c d : Option D, subS [none, none, some 2] [a, b, c, d] = [none, none, c] := fun _ _ _ _ => rfl
    have z2 : szOk 2 = true := by decide
    have z1 : szOk 1 = true := by decide
    have ee : enumD [D.int 1, .non] = [D.tup [.int 0, .int 1], .tup [.int 1, .non]] := rfl
    refine ev_run (σ' := [some (.int own), some (.tup [.int 1, .non]), some (.tup [.non, .tup (xs.map .int)]), some (.int 2)]) rfl ?_ rfl
    generalize hX : xs.map D.int = X at *
    have a1 : atI [D.non, .tup X] 1 = some (.tup X) := rfl
    simp [b_20, sb, z2, z1, ee, compL, isNon, a1, im]
  have e24 : tab 55 24 [.int own, .tup [.str "sums", .tup [.int 1, .non]], .tup [.non, .tup (xs.map .int)]] g = some (.tup [.non, .tup [.int xs.sum]], g) := by
    refine ev_run (σ' := [some (.int own), some (.tup [.str "sums", .tup [.int 1, .non]]), some (.tup [.non, .tup (xs.map .int)]), some (.str "sums")]) rfl ?_ rfl
    simp [b_24, at2_0, at2_1, e20]
  exact ev_run (σ' := [some (.int own), some (.tup [.str "sums", .tup [.int 1, .non]]), some (.tup [.non, .tup (xs.map .int)])]) rfl (by simp [b_23, e24, at2_1]) rfl
theorem deeds_a {x : D} : tab 56 23 [.int own, .tup [.str "deeds", .tup [.tup [.str "look"]]], .tup [x]] g = some (.tup [], g) := by
  have e25 : tab 54 25 [.tup [.tup [.str "look"]], .tup [x]] g = some (.tup [.non, .tup []], g) := by
    refine ev_run (σ' := [some (.tup [.tup [.str "look"]]), some (.tup [x])]) rfl ?_ rfl
    simp [b_25]
  have e24 : tab 55 24 [.int own, .tup [.str "deeds", .tup [.tup [.str "look"]]], .tup [x]] g = some (.tup [.non, .tup []], g) := by
    refine ev_run (σ' := [some (.int own), some (.tup [.str "deeds", .tup [.tup [.str "look"]]]), some (.tup [x]), some (.str "deeds")]) rfl ?_ rfl
    simp [b_24, at2_0, at2_1, e25, sw1, sw2, sw3, sw4]
  exact ev_run (σ' := [some (.int own), some (.tup [.str "deeds", .tup [.tup [.str "look"]]]), some (.tup [x])]) rfl (by simp [b_23, e24, at2_1]) rfl
end
noncomputable def rest : FS := (fSeq (fAsg (fMk mkTup (fCons (fVar 6) (fCons (fCall bTup (fCons (fComp cLst (iSeq (fVar 8)) [none, none] (gT 2 (gConss (gN 0) (gConss (gN 1) (gNils)))) (fTrue) (fMk mkTup (fCons (fVar 0) (fCons (fMk mkTup (fNil)) (fCons (fMk mkTup (fNil)) (fNil)))))) (fNil))) (fNil)))) (gN 9)) (fSeq (fAsg (fComp cLst (iSeq (fVar 8)) [none, none] (gT 2 (gConss (gN 0) (gConss (gN 1) (gNils)))) (fTest (fOp oIsnt (fVar 1) (fC .non))) (fVar 1)) (gN 10)) (fIf (fNot (fTru (fCall (tab 58 58) (fCons (fCall (tab 58 29) (fCons (fVar 2) (fCons (fVar 5) (fCons (fVar 9) (fNil))))) (fCons (fCall (tab 58 56) (fCons (fVar 10) (fCons (fVar 4) (fCons (fVar 3) (fNil))))) (fNil)))))) (fRet (fC (.bl false))) (fSkip))))
noncomputable def sg (n : Nat) (hh : Int) (w : Nat) (m bx : D) (i : Nat) (ts : List Tr) (o9 p0 p1 p2 p3 : Option D) : Sg := [some (.ref n), some (.int (1 + hh)), some m, some (.int (w : Nat)), some (.lst ((ts.map (·.1)).map .int)), some (.tup (ts.map (jb w))), some bx, some (.int i), some (.lst (ts.map fun t => .tup [t.2.1, eO t.2.2])), o9, p0, p1, p2, p3]
theorem rest_ok {n i w : Nat} {hh : Int} {m bx : D} {ts : List Tr} {o9 p0 p1 p2 p3 : Option D} {g : G} (hw : w ≤ 6) (hl : ts.length ≤ 5) (hp : 0 < ts.length) (ha : ∀ j t, ts[j]? = some t → t.1.natAbs ≤ 40 ∧ Ans j t.1 w t.2.1 t.2.2) : ∃ o9' p0', rest (sg n hh w m bx i ts o9 p0 p1 p2 p3) g = some (.nx, sg n hh w m bx i ts o9' p0' p1 p2 p3, g) := by
  have z : szOk ts.length = true := sz_of (by omega)
  have sb : ∀ σ : Sg, subS [none, none] σ = [none, none] := fun _ => rfl
  have c1 := comp_rows g ts none none
  have c2 := comp_some2 g ts none none
  obtain ⟨lo, hi, h1, h2⟩ := mm_some (l := ts.map (·.1)) (by simpa using hp)
  have al : (ts.filterMap (·.2.2)).length ≤ 100 := Nat.le_trans (List.length_filterMap_le _ _) (by omega)
  have dn : ∀ a ∈ ts.filterMap (·.2.2), Dn a := fun a hm => by
    rw [List.mem_filterMap] at hm
    obtain ⟨t, ht, hta⟩ := hm
    obtain ⟨j, hj⟩ := List.mem_iff_getElem?.mp ht
    have := ha j t hj
    rw [hta] at this
    exact ans_dn hw this.1 this.2
  have e29 := ok29 (g := g) (bx := bx) (m := m) hw (by omega : ts.length ≤ 100) hp ha h1 h2
  have e56 := ok56 (k := 56) (g := g) (nums := ts.map (·.1)) hw al dn h1 h2
  have e58 := ok58 (b := fitB lo hi w (ts.filterMap (·.2.2))) (k := 57) (g := g)
  refine ⟨some (.tup [bx, .tup (ts.map rw_)]), some (.lst ((ts.filterMap (·.2.2)).map fr)), ?_⟩
  have e1 : fAsg (fMk mkTup (fCons (fVar 6) (fCons (fCall bTup (fCons (fComp cLst (iSeq (fVar 8)) [none, none] (gT 2 (gConss (gN 0) (gConss (gN 1) (gNils)))) (fTrue) (fMk mkTup (fCons (fVar 0) (fCons (fMk mkTup (fNil)) (fCons (fMk mkTup (fNil)) (fNil)))))) (fNil))) (fNil)))) (gN 9) (sg n hh w m bx i ts o9 p0 p1 p2 p3) g = some (.nx, sg n hh w m bx i ts (some (.tup [bx, .tup (ts.map rw_)])) p0 p1 p2 p3, g) := by
    simp [sg, z, sb, c1]
  have e2 : ∀ o9, fAsg (fComp cLst (iSeq (fVar 8)) [none, none] (gT 2 (gConss (gN 0) (gConss (gN 1) (gNils)))) (fTest (fOp oIsnt (fVar 1) (fC .non))) (fVar 1)) (gN 10) (sg n hh w m bx i ts o9 p0 p1 p2 p3) g = some (.nx, sg n hh w m bx i ts o9 (some (.lst ((ts.filterMap (·.2.2)).map fr))) p1 p2 p3, g) := by
    intro o9
    simp [sg, z, sb, c2]
  unfold rest
  rw [seq_nx e1, seq_nx (e2 _)]
  generalize ts.filterMap (·.2.2) = F at *
  simp only [sg]
  generalize (ts.map (·.1)) = N at *
  generalize (ts.map (jb w)) = J at *
  generalize (ts.map rw_) = R at *
  simp [e29, e56, e58]
theorem num_in {d : D} (h : d ∈ [D.int (-20), .int (-3), .int 0, .int 1, .int 2, .int 7, .int 40]) : ∃ v : Int, d = .int v ∧ v.natAbs ≤ 40 := by
  simp only [List.mem_cons, List.not_mem_nil, or_false] at h
  rcases h with rfl | rfl | rfl | rfl | rfl | rfl | rfl
  all_goals exact ⟨_, rfl, by decide⟩
theorem mul_l {J : D} {h : Nat} {g : G} (h0 : 0 < h) (h5 : h ≤ 5) : oMul2 (.lst [J]) (.int (h : Nat)) g = some (.lst (List.replicate h J), g) := by
  have : h = 1 ∨ h = 2 ∨ h = 3 ∨ h = 4 ∨ h = 5 := by omega
  rcases this with rfl | rfl | rfl | rfl | rfl <;> rfl
theorem mul_t {J : D} {h : Nat} {g : G} (h0 : 0 < h) (h5 : h ≤ 5) : oMul (.tup [J]) (.int (h : Nat)) g = some (.tup (List.replicate h J), g) := by
  have : h = 1 ∨ h = 2 ∨ h = 3 ∨ h = 4 ∨ h = 5 := by omega
  rcases this with rfl | rfl | rfl | rfl | rfl <;> rfl
set_option maxHeartbeats 8000000 in
theorem case_w {n : Nat} {g : G} {Q : D × G → Prop} (hc : Clean g) (hd : Hd g n 0) (q : ∀ g', Clean g' → Q (.bl true, g')) : wp (tab 59 57 [.ref n] g) Q := by
  refine wp_runS rfl ?_
  simp [b_57]
  refine (okT 57).w (by omega) (by decide) (by decide) hd fun hh g1 a0 a1 h1 f1 => ?_
  simp
  refine man_w (by omega) h1 fun m g2 hm h2 f2 => ?_
  simp
  refine (okT 57).w (by omega) (by omega) (by omega) h2 fun wt g3 w0 w1 h3 f3 => ?_
  obtain ⟨w, hw⟩ : ∃ w : Nat, 1 + wt = w := ⟨(1 + wt).toNat, by omega⟩
  have hw6 : w ≤ 6 := by omega
  simp
  rw [hw]
  refine iR1_w ?_
  simp
  refine ⟨by omega, by omega, ?_⟩
  have z0 : szOk (rng 0 (1 + hh).toNat).length = true := sz_of (by rw [rng_len]; omega)
  simp [z0]
  have ff3 := (f1.trans f2).trans f3
  refine wp_compL (fun i acc σ gg => (∃ o, σ = [o, some (.ref n)]) ∧ Hd gg n (20 + i) ∧ Fr n g gg ∧ ∃ nums : List Int, acc = nums.map .int ∧ nums.length = i ∧ ∀ v ∈ nums, v.natAbs ≤ 40) _ 0 _ _ [] ⟨⟨none, rfl⟩, h3.mono (by omega), ff3, [], rfl, rfl, by simp⟩ ?_ ?_
  · rintro i d acc σ gg hdi ⟨⟨o, rfl⟩, hg, fg, nums, rfl, hl, hn⟩
    obtain ⟨hi, rfl⟩ := rng_get0 hdi
    simp
    refine (okP 56).w (by omega) (by simp) (by simp) hg fun d g4 hdm h4 f4 => ?_
    obtain ⟨v, rfl, hv⟩ := num_in (by simpa using hdm)
    refine ⟨h4.mono (by omega), fg.trans f4, nums ++ [v], by simp, by simp; omega, fun x hx => ?_⟩
    rcases List.mem_append.mp hx with hx | hx
    · exact hn x hx
    · simp at hx; subst hx; exact hv
  · rintro xs σ gg ⟨⟨o, rfl⟩, hg, fg, nums, e, hl, hn⟩
    simp only [List.nil_append] at e
    subst e
    rw [rng_len] at hl hg
    have hln : (nums.length : Int) = 1 + hh := by omega
    have z1 : szOk nums.length = true := sz_of (by omega)
    have cj := comp_jobs w gg nums none
    have sb : ∀ a b c d e f g h i j k l m n : Option D, subS [none, some 3] [a, b, c, d, e, f, g, h, i, j, k, l, m, n] = [none, d] := fun _ _ _ _ _ _ _ _ _ _ _ _ _ _ => rfl
    simp [z1, sb, cj]
    obtain ⟨bx, r, eb⟩ := ok44 (J := .tup (nums.map fun v => .tup [.str "closer", .int v, .int (w : Nat)])) (g := gg) (by omega) (by omega) hm
    simp [eb, at2_0]
    refine iR1_w ?_
    simp
    refine wp_forL (fun i σ gg => (∃ o7 o8 o9 p0 p1 p2 p3, σ = [some (.ref n), some (.int (1 + hh)), some m, some (.int (w : Nat)), some (.lst (nums.map .int)), some (.tup (nums.map fun v => .tup [.str "closer", .int v, .int (w : Nat)])), some bx, o7, o8, o9, p0, p1, p2, p3]) ∧ Hd gg n (100 + i * 3000) ∧ Fr n g gg) _ 0 _ _ ⟨⟨_, _, _, _, _, _, _, rfl⟩, hg.mono (by omega), fg⟩ ?_ ?_
    · rintro i d σ g4 hdi ⟨⟨o7, o8, o9, p0, p1, p2, p3, rfl⟩, h4, f4⟩
      obtain ⟨hi, rfl⟩ := rng_get0 hdi
      simp only [ev_gN, wp_some, List.set_cons_succ, List.set_cons_zero]
      show wp (fSeq _ rest _ _) _
      rw [ev_fSeq, wp_bind, ev_fAsg, wp_bind, ev_fComp, wp_bind]
      refine iR1_w ?_
      simp
      refine ⟨by omega, by omega, ?_⟩
      have z0 : szOk (rng 0 (1 + hh).toNat).length = true := sz_of (by rw [rng_len]; omega)
      simp [z0]
      refine wp_compL (fun j acc σ g5 => (∃ o, σ = [o, some (.ref n), some (.lst (nums.map .int)), some (.int (w : Nat))]) ∧ Hd g5 n (100 + i * 3000 + j * 500) ∧ Fr n g g5 ∧ ∃ ts : List Tr, acc = ts.map (fun t => .tup [t.2.1, eO t.2.2]) ∧ ts.length = j ∧ ts.map (·.1) = nums.take j ∧ ∀ k t, ts[k]? = some t → t.1.natAbs ≤ 40 ∧ Ans k t.1 w t.2.1 t.2.2) _ 0 _ _ [] ⟨⟨none, rfl⟩, h4.mono (by omega), f4, [], rfl, rfl, by simp, by simp⟩ ?_ ?_
      · rintro j d acc σ g5 hdj ⟨⟨o, rfl⟩, h5, f5, ts, rfl, hl5, hn5, ha5⟩
        obtain ⟨hj, rfl⟩ := rng_get0 hdj
        rw [Nat.zero_add] at *
        have hjn : nums[j]? = some (nums[j]'(by omega)) := List.getElem?_eq_getElem (by omega)
        have hjm : nums[j]'(by omega) ∈ nums := List.getElem_mem _
        simp
        refine told_w (own := j) (by omega) (by omega) (by omega) hjn hn hw6 (hc.fr f5 h5) h5 fun t a g6 hA h6 f6 => ?_
        refine ⟨h6.mono (by omega), f5.trans f6, ts ++ [(nums[j]'(by omega), t, a)], by simp, by simp; omega, ?_, fun k x1 x2 x3 hx => ?_⟩
        · rw [List.map_append, hn5]
          simp only [List.map_cons, List.map_nil]
          rw [List.take_succ, hjn]
          rfl
        · by_cases hk : k < ts.length
          · rw [List.getElem?_append_left hk] at hx
            exact ha5 k _ hx
          · rw [List.getElem?_append_right (by omega)] at hx
            have hk0 : k - ts.length = 0 := by
              have := (List.getElem?_eq_some_iff.mp hx).1
              simp at this
              omega
            rw [hk0] at hx
            simp at hx
            obtain ⟨rfl, rfl, rfl⟩ := hx
            have : k = j := by omega
            subst this
            exact ⟨hn _ hjm, hA⟩
      · rintro xs σ g5 ⟨⟨o, rfl⟩, h5, f5, ts, e, hl5, hn5, ha5⟩
        simp only [List.nil_append] at e
        subst e
        rw [rng_len, Nat.zero_add] at h5 hl5 hn5
        have : nums.take (1 + hh).toNat = nums := List.take_of_length_le (by omega)
        rw [this] at hn5
        subst hn5
        have ej : (ts.map (·.1)).map (fun v => D.tup [.str "closer", .int v, .int (w : Nat)]) = ts.map (jb w) := by rw [List.map_map]; rfl
        obtain ⟨o9', p0', er⟩ := rest_ok (n := n) (i := i) (hh := hh) (m := m) (bx := bx) (ts := ts) (o9 := o9) (p0 := p0) (p1 := p1) (p2 := p2) (p3 := p3) (g := g5) hw6 (by omega) (by omega) ha5
        simp only [sg] at er
        rw [ej]
        simp only [ev_cLst, wp_some, ev_gN, List.set_cons_succ, List.set_cons_zero]
        simp
        simp at er
        rw [er]
        simp
        exact ⟨h5.mono (by omega), f5⟩
    · rintro σ g4 ⟨⟨o7, o8, o9, p0, p1, p2, p3, rfl⟩, h4, f4⟩
      rw [rng_len] at h4
      obtain ⟨h, hhe⟩ : ∃ h : Nat, 1 + hh = h := ⟨(1 + hh).toNat, by omega⟩
      have hh5 : 0 < h ∧ h ≤ 5 := by omega
      have m1 : ∀ (J : D) (g : G), oMul2 (.lst [J]) (.int (h : Nat)) g = some (.lst (List.replicate h J), g) := fun J g => mul_l hh5.1 hh5.2
      have m2 : ∀ (J : D) (g : G), oMul (.tup [J]) (.int (h : Nat)) g = some (.tup (List.replicate h J), g) := fun J g => mul_t hh5.1 hh5.2
      have zh : szOk h = true := sz_of (by omega)
      have zz2 : szOk 2 = true := by decide
      have z3 : szOk (rng 0 h).length = true := sz_of (by rw [rng_len]; omega)
      simp only [hhe]
      simp [m1, zh, zz2, -ev_oMul2L]
      refine iR1_w ?_
      simp
      refine ⟨by omega, ?_⟩
      simp [z3]
      refine wp_compL (fun i acc σ gg => (∃ o, σ = [o, some (.ref n)]) ∧ Hd gg n (20000 + i) ∧ Fr n g gg ∧ ∃ xs : List Int, acc = xs.map .int ∧ xs.length = i) _ 0 _ _ [] ⟨⟨none, rfl⟩, h4.mono (by omega), f4, [], rfl, rfl⟩ ?_ ?_
      · rintro i d acc σ g5 hdi ⟨⟨o, rfl⟩, h5, f5, xs, rfl, hxl⟩
        obtain ⟨hi, rfl⟩ := rng_get0 hdi
        simp
        refine (okT 57).w (by omega) (by decide) (by decide) h5 fun r g6 r0 r1 h6 f6 => ?_
        exact ⟨h6.mono (by omega), f5.trans f6, xs ++ [r], by simp, by simp; omega⟩
      · rintro ys σ g5 ⟨⟨o, rfl⟩, h5, f5, xs, e, hxl⟩
        simp only [List.nil_append] at e
        subst e
        rw [rng_len, Nat.zero_add] at hxl
        have zx : szOk xs.length = true := sz_of (by omega)
        have e1 := fit_rep (g := g5) (m := m) (bx := bx) (w := "sums") (x := [.tup [.int 1, .non]]) (t := .tup [.non, .tup (xs.map .int)]) (d := .tup [.int xs.sum]) (h := h) (fun own => sums_a) rfl hh5.1 hh5.2 (by decide) (by decide) (by decide)
        have e2 := fit_rep (g := g5) (m := m) (bx := bx) (w := "deeds") (x := [.tup [.tup [.str "look"]]]) (t := .tup [.tup (xs.map .int)]) (d := .tup []) (h := h) (fun own => deeds_a) rfl hh5.1 hh5.2 sw2 sw3 sw4
        have zX : szOk (xs.map D.int).length = true := by rw [List.length_map]; exact zx
        generalize xs.map D.int = X at *
        have bt : isBl true (.bl true) = true := rfl
        simp [zX, zz2, zipD, forL, m2, e1, e2, bt]
        have e : g5.take g.length = g5 := List.take_of_length_le (by rw [f5.1]; exact Nat.le_refl _)
        rw [e]
        exact ⟨rfl, fun x hx => (hc.fr f5 h5) x hx _, by rw [f5.1]; exact Nat.le_refl _, q _ (hc.fr f5 h5)⟩
theorem bools_rep : ∀ k : Nat, bools (List.replicate k (D.bl true)) = some (List.replicate k true)
  | 0 => rfl
  | k + 1 => by simp [List.replicate_succ, bools, bools_rep k]
theorem law_spec (ns : List Int) (hl : ns.length ≤ 63) : ∃ g', tab 60 59 [.lst (ns.map .int)] [] = some (.bl true, g') := by
  have main : wp (tab 60 59 [.lst (ns.map .int)] []) fun r => r.1 = .bl true := by
    refine wp_runS rfl ?_
    simp only [b_59, ev_fRet, wp_bind, ev_fCall, ev_fCons, ev_fComp]
    refine iR1_w ?_
    simp
    refine ⟨by split <;> omega, by split <;> omega, ?_⟩
    have hJ : ∃ J : Int, J ≤ 5 ∧ J = (if 1 < if 4 < (ns.length : Int) then 4 else (ns.length : Int) then if 4 < (ns.length : Int) then 4 else (ns.length : Int) else 1) := ⟨_, by split <;> (try split) <;> omega, rfl⟩
    obtain ⟨J, hJ5, eJ⟩ := hJ
    rw [← eJ]
    have z0 : szOk (rng 0 J.toNat).length = true := sz_of (by rw [rng_len]; omega)
    simp [z0]
    refine wp_compL (fun i acc σ g => (∃ o, σ = [o, some (.lst (ns.map .int))]) ∧ Clean g ∧ acc = List.replicate i (.bl true)) _ 0 _ _ [] ⟨⟨none, rfl⟩, fun x hx => by simp at hx, rfl⟩ ?_ ?_
    · rintro i d acc σ g hdi ⟨⟨o, rfl⟩, hc, rfl⟩
      obtain ⟨hi, rfl⟩ := rng_get0 hdi
      simp
      refine (okH 58).w (by omega) fun xs hh => ?_
      simp
      refine case_w (hc.app hh) hh fun g' hc' => ?_
      simp
      exact ⟨hc', by rw [List.replicate_succ']⟩
    · rintro xs σ g ⟨⟨o, rfl⟩, hc, e⟩
      simp only [List.nil_append] at e
      subst e
      simp [bools_rep, noR]
  obtain ⟨⟨d, g'⟩, e, h⟩ := main
  dsimp only at h
  subst h
  exact ⟨g', e⟩
end K61
namespace K61
open PySem PySem.Spec PyProof.Rows L2 L3
structure An (w : World) (K : PySem.W.Frag) (mg : Str → Option Value) (f : Nat → Addr) (fd : Nat → FuncData) : Prop where
  f_1 : Fun K "closer_course" "closer_course" (top 1) (f 1) (fd 1)
  q_1 : Fa K mg "closer_course" (f 1) (fd 1) P_1
  f_2 : Fun K "others_of_round" "others_of_round" (top 2) (f 2) (fd 2)
  q_2 : Fa K mg "others_of_round" (f 2) (fd 2) P_2
  f_3 : Fun K "middle" "middle" (top 3) (f 3) (fd 3)
  q_3 : Fa K mg "middle" (f 3) (fd 3) P_3
  f_4 : Fun K "is_less" "is_less" (top 4) (f 4) (fd 4)
  q_4 : Fa K mg "is_less" (f 4) (fd 4) P_4
  f_5 : Fun K "half_sum" "half_sum" (top 5) (f 5) (fd 5)
  q_5 : Fa K mg "half_sum" (f 5) (fd 5) P_5
  f_6 : Fun K "lowest_terms" "lowest_terms" (top 6) (f 6) (fd 6)
  q_6 : Fa K mg "lowest_terms" (f 6) (fd 6) P_6
  f_7 : Fun K "common_divisor" "common_divisor" (top 7) (f 7) (fd 7)
  q_7 : Fa K mg "common_divisor" (f 7) (fd 7) P_7
  f_10 : Fun K "number_of" "number_of" (top 10) (f 10) (fd 10)
  q_10 : Fa K mg "number_of" (f 10) (fd 10) P_10
  f_11 : Fun K "hands_of" "hands_of" (top 11) (f 11) (fd 11)
  q_11 : Fa K mg "hands_of" (f 11) (fd 11) P_11
  f_20 : Fun K "sums_course" "sums_course" (top 20) (f 20) (fd 20)
  q_20 : Fa K mg "sums_course" (f 20) (fd 20) P_20
  f_21 : Fun K "sums_deed" "sums_deed" (top 21) (f 21) (fd 21)
  q_21 : Fa K mg "sums_deed" (f 21) (fd 21) P_21
  f_23 : Fun K "answer_of" "answer_of" (top 23) (f 23) (fd 23)
  q_23 : Fa K mg "answer_of" (f 23) (fd 23) P_23
  f_24 : Fun K "course" "course" (top 24) (f 24) (fd 24)
  q_24 : Fa K mg "course" (f 24) (fd 24) P_24
  f_25 : Fun K "deeds_course" "deeds_course" (top 25) (f 25) (fd 25)
  q_25 : Fa K mg "deeds_course" (f 25) (fd 25) P_25
  f_27 : Fun K "answers_of" "answers_of" (top 27) (f 27) (fd 27)
  q_27 : Fa K mg "answers_of" (f 27) (fd 27) P_27
  f_29 : Fun K "fit" "fit" (top 29) (f 29) (fd 29)
  q_29 : Fa K mg "fit" (f 29) (fd 29) P_29
  f_32 : Fun K "closers_fit" "closers_fit" (top 32) (f 32) (fd 32)
  q_32 : Fa K mg "closers_fit" (f 32) (fd 32) P_32
  f_33 : Fun K "are_close" "are_close" (top 33) (f 33) (fd 33)
  q_33 : Fa K mg "are_close" (f 33) (fd 33) P_33
  f_35 : Fun K "first_boxes" "first_boxes" (top 35) (f 35) (fd 35)
  q_35 : Fa K mg "first_boxes" (f 35) (fd 35) P_35
  f_36 : Fun K "listed_boxes" "listed_boxes" (top 36) (f 36) (fd 36)
  q_36 : Fa K mg "listed_boxes" (f 36) (fd 36) P_36
  f_38 : Fun K "own_content" "own_content" (top 38) (f 38) (fd 38)
  q_38 : Fa K mg "own_content" (f 38) (fd 38) P_38
  f_39 : Fun K "shake_boxes" "shake_boxes" (top 39) (f 39) (fd 39)
  q_39 : Fa K mg "shake_boxes" (f 39) (fd 39) P_39
  f_40 : Fun K "single_boxes" "single_boxes" (top 40) (f 40) (fd 40)
  q_40 : Fa K mg "single_boxes" (f 40) (fd 40) P_40
  f_41 : Fun K "crossed_boxes" "crossed_boxes" (top 41) (f 41) (fd 41)
  q_41 : Fa K mg "crossed_boxes" (f 41) (fd 41) P_41
  f_42 : Fun K "zeros" "zeros" (top 42) (f 42) (fd 42)
  q_42 : Fa K mg "zeros" (f 42) (fd 42) P_42
  f_44 : Fun K "begun" "begun" (top 44) (f 44) (fd 44)
  q_44 : Fa K mg "begun" (f 44) (fd 44) P_44
  f_46 : Fun K "_law_hand" "_law_hand" (top 46) (f 46) (fd 46)
  q_46 : Fa K mg "_law_hand" (f 46) (fd 46) P_46
  f_47 : Fun K "_law_take" "_law_take" (top 47) (f 47) (fd 47)
  q_47 : Fa K mg "_law_take" (f 47) (fd 47) P_47
  f_48 : Fun K "_law_pick" "_law_pick" (top 48) (f 48) (fd 48)
  q_48 : Fa K mg "_law_pick" (f 48) (fd 48) P_48
  f_49 : Fun K "_law_own_manner" "_law_own_manner" (top 49) (f 49) (fd 49)
  q_49 : Fa K mg "_law_own_manner" (f 49) (fd 49) P_49
  f_50 : Fun K "_law_low" "_law_low" (top 50) (f 50) (fd 50)
  q_50 : Fa K mg "_law_low" (f 50) (fd 50) P_50
  f_51 : Fun K "_law_half" "_law_half" (top 51) (f 51) (fd 51)
  q_51 : Fa K mg "_law_half" (f 51) (fd 51) P_51
  f_52 : Fun K "_law_end" "_law_end" (top 52) (f 52) (fd 52)
  q_52 : Fa K mg "_law_end" (f 52) (fd 52) P_52
  f_53 : Fun K "_law_row" "_law_row" (top 53) (f 53) (fd 53)
  q_53 : Fa K mg "_law_row" (f 53) (fd 53) P_53
  f_54 : Fun K "_law_told" "_law_told" (top 54) (f 54) (fd 54)
  q_54 : Fa K mg "_law_told" (f 54) (fd 54) P_54
  f_55 : Fun K "_law_near" "_law_near" (top 55) (f 55) (fd 55)
  q_55 : Fa K mg "_law_near" (f 55) (fd 55) P_55
  f_56 : Fun K "_law_due" "_law_due" (top 56) (f 56) (fd 56)
  q_56 : Fa K mg "_law_due" (f 56) (fd 56) P_56
  f_57 : Fun K "_law_case" "_law_case" (top 57) (f 57) (fd 57)
  q_57 : Fa K mg "_law_case" (f 57) (fd 57) P_57
  f_58 : Fun K "_law_truth" "_law_truth" (top 58) (f 58) (fd 58)
  q_58 : Fa K mg "_law_truth" (f 58) (fd 58) P_58
  f_59 : Fun K "law" "law" (top 59) (f 59) (fd 59)
  q_59 : Fa K mg "law" (f 59) (fd 59) P_59
  z_abs : mg "abs" = none
  z_all : mg "all" = none
  z_bool : mg "bool" = none
  z_enumerate : mg "enumerate" = none
  z_int : mg "int" = none
  z_isinstance : mg "isinstance" = none
  z_len : mg "len" = none
  z_max : mg "max" = none
  z_min : mg "min" = none
  z_range : mg "range" = none
  z_sorted : mg "sorted" = none
  z_sum : mg "sum" = none
  z_tuple : mg "tuple" = none
  z_zip : mg "zip" = none
  t_NUMBERS : ∃ a, mg "NUMBERS" = some (.ref a) ∧ DctAt w K a tbl_NUMBERS
theorem cn_zero {P : Program} {w : World} {K : PySem.W.Frag} {mg : Str → Option Value} {base : Heap} {f : Nat → Addr} {fd : Nat → FuncData} (A : An w K mg f fd) : Cn P w K mg base 0 f fd where
  o_1 := fn_none fun _ _ => rfl
  q_1 := A.q_1
  o_2 := fn_none fun _ _ => rfl
  q_2 := A.q_2
  o_3 := fn_none fun _ _ => rfl
  q_3 := A.q_3
  o_4 := fn_none fun _ _ => rfl
  q_4 := A.q_4
  o_5 := fn_none fun _ _ => rfl
  q_5 := A.q_5
  o_6 := fn_none fun _ _ => rfl
  q_6 := A.q_6
  o_7 := fn_none fun _ _ => rfl
  q_7 := A.q_7
  o_10 := fn_none fun _ _ => rfl
  q_10 := A.q_10
  o_11 := fn_none fun _ _ => rfl
  q_11 := A.q_11
  o_20 := fn_none fun _ _ => rfl
  q_20 := A.q_20
  o_21 := fn_none fun _ _ => rfl
  q_21 := A.q_21
  o_23 := fn_none fun _ _ => rfl
  q_23 := A.q_23
  o_24 := fn_none fun _ _ => rfl
  q_24 := A.q_24
  o_25 := fn_none fun _ _ => rfl
  q_25 := A.q_25
  o_27 := fn_none fun _ _ => rfl
  q_27 := A.q_27
  o_29 := fn_none fun _ _ => rfl
  q_29 := A.q_29
  o_32 := fn_none fun _ _ => rfl
  q_32 := A.q_32
  o_33 := fn_none fun _ _ => rfl
  q_33 := A.q_33
  o_35 := fn_none fun _ _ => rfl
  q_35 := A.q_35
  o_36 := fn_none fun _ _ => rfl
  q_36 := A.q_36
  o_38 := fn_none fun _ _ => rfl
  q_38 := A.q_38
  o_39 := fn_none fun _ _ => rfl
  q_39 := A.q_39
  o_40 := fn_none fun _ _ => rfl
  q_40 := A.q_40
  o_41 := fn_none fun _ _ => rfl
  q_41 := A.q_41
  o_42 := fn_none fun _ _ => rfl
  q_42 := A.q_42
  o_44 := fn_none fun _ _ => rfl
  q_44 := A.q_44
  o_46 := fn_none fun _ _ => rfl
  q_46 := A.q_46
  o_47 := fn_none fun _ _ => rfl
  q_47 := A.q_47
  o_48 := fn_none fun _ _ => rfl
  q_48 := A.q_48
  o_49 := fn_none fun _ _ => rfl
  q_49 := A.q_49
  o_50 := fn_none fun _ _ => rfl
  q_50 := A.q_50
  o_51 := fn_none fun _ _ => rfl
  q_51 := A.q_51
  o_52 := fn_none fun _ _ => rfl
  q_52 := A.q_52
  o_53 := fn_none fun _ _ => rfl
  q_53 := A.q_53
  o_54 := fn_none fun _ _ => rfl
  q_54 := A.q_54
  o_55 := fn_none fun _ _ => rfl
  q_55 := A.q_55
  o_56 := fn_none fun _ _ => rfl
  q_56 := A.q_56
  o_57 := fn_none fun _ _ => rfl
  q_57 := A.q_57
  o_58 := fn_none fun _ _ => rfl
  q_58 := A.q_58
  o_59 := fn_none fun _ _ => rfl
  q_59 := A.q_59
  z_abs := A.z_abs
  z_all := A.z_all
  z_bool := A.z_bool
  z_enumerate := A.z_enumerate
  z_int := A.z_int
  z_isinstance := A.z_isinstance
  z_len := A.z_len
  z_max := A.z_max
  z_min := A.z_min
  z_range := A.z_range
  z_sorted := A.z_sorted
  z_sum := A.z_sum
  z_tuple := A.z_tuple
  z_zip := A.z_zip
  t_NUMBERS := A.t_NUMBERS
theorem cn_succ {P : Program} {w : World} {K : PySem.W.Frag} {mg : Str → Option Value} {base : Heap} {k : Nat} {f : Nat → Addr} {fd : Nat → FuncData} (A : An w K mg f fd) (C : Cn P w K mg base k f fd) : Cn P w K mg base (k + 1) f fd where
  o_1 := fn_pure (fn_ok (N := N_1) (keep := false) (b := b_1 (tab k)) A.f_1 sc_1 (by decide) fun cdv A outer s H E hr => body_1 C hr)
  q_1 := A.q_1
  o_2 := fn_pure (fn_ok (N := N_2) (keep := false) (b := b_2 (tab k)) A.f_2 sc_2 (by decide) fun cdv A outer s H E hr => body_2 C hr)
  q_2 := A.q_2
  o_3 := fn_pure (fn_ok (N := N_3) (keep := false) (b := b_3 (tab k)) A.f_3 sc_3 (by decide) fun cdv A outer s H E hr => body_3 C hr)
  q_3 := A.q_3
  o_4 := fn_pure (fn_ok (N := N_4) (keep := false) (b := b_4 (tab k)) A.f_4 sc_4 (by decide) fun cdv A outer s H E hr => body_4 C hr)
  q_4 := A.q_4
  o_5 := fn_pure (fn_ok (N := N_5) (keep := false) (b := b_5 (tab k)) A.f_5 sc_5 (by decide) fun cdv A outer s H E hr => body_5 C hr)
  q_5 := A.q_5
  o_6 := fn_pure (fn_ok (N := N_6) (keep := false) (b := b_6 (tab k)) A.f_6 sc_6 (by decide) fun cdv A outer s H E hr => body_6 C hr)
  q_6 := A.q_6
  o_7 := fn_pure (fn_ok (N := N_7) (keep := false) (b := b_7 (tab k)) A.f_7 sc_7 (by decide) fun cdv A outer s H E hr => body_7 C hr)
  q_7 := A.q_7
  o_10 := fn_ok (N := N_10) (keep := false) (b := b_10 (tab k)) A.f_10 sc_10 (by decide) fun cdv A outer s H E hr => body_10 C hr
  q_10 := A.q_10
  o_11 := fn_pure (fn_ok (N := N_11) (keep := false) (b := b_11 (tab k)) A.f_11 sc_11 (by decide) fun cdv A outer s H E hr => body_11 C hr)
  q_11 := A.q_11
  o_20 := fn_ok (N := N_20) (keep := false) (b := b_20 (tab k)) A.f_20 sc_20 (by decide) fun cdv A outer s H E hr => body_20 C hr
  q_20 := A.q_20
  o_21 := fn_ok (N := N_21) (keep := false) (b := b_21 (tab k)) A.f_21 sc_21 (by decide) fun cdv A outer s H E hr => body_21 C hr
  q_21 := A.q_21
  o_23 := fn_ok (N := N_23) (keep := false) (b := b_23 (tab k)) A.f_23 sc_23 (by decide) fun cdv A outer s H E hr => body_23 C hr
  q_23 := A.q_23
  o_24 := fn_ok (N := N_24) (keep := false) (b := b_24 (tab k)) A.f_24 sc_24 (by decide) fun cdv A outer s H E hr => body_24 C hr
  q_24 := A.q_24
  o_25 := fn_ok (N := N_25) (keep := false) (b := b_25 (tab k)) A.f_25 sc_25 (by decide) fun cdv A outer s H E hr => body_25 C hr
  q_25 := A.q_25
  o_27 := fn_ok (N := N_27) (keep := false) (b := b_27 (tab k)) A.f_27 sc_27 (by decide) fun cdv A outer s H E hr => body_27 C hr
  q_27 := A.q_27
  o_29 := fn_ok (N := N_29) (keep := false) (b := b_29 (tab k)) A.f_29 sc_29 (by decide) fun cdv A outer s H E hr => body_29 C hr
  q_29 := A.q_29
  o_32 := fn_ok (N := N_32) (keep := false) (b := b_32 (tab k)) A.f_32 sc_32 (by decide) fun cdv A outer s H E hr => body_32 C hr
  q_32 := A.q_32
  o_33 := fn_ok (N := N_33) (keep := false) (b := b_33 (tab k)) A.f_33 sc_33 (by decide) fun cdv A outer s H E hr => body_33 C hr
  q_33 := A.q_33
  o_35 := fn_pure (fn_ok (N := N_35) (keep := false) (b := b_35 (tab k)) A.f_35 sc_35 (by decide) fun cdv A outer s H E hr => body_35 C hr)
  q_35 := A.q_35
  o_36 := fn_ok (N := N_36) (keep := false) (b := b_36 (tab k)) A.f_36 sc_36 (by decide) fun cdv A outer s H E hr => body_36 C hr
  q_36 := A.q_36
  o_38 := fn_ok (N := N_38) (keep := false) (b := b_38 (tab k)) A.f_38 sc_38 (by decide) fun cdv A outer s H E hr => body_38 C hr
  q_38 := A.q_38
  o_39 := fn_ok (N := N_39) (keep := false) (b := b_39 (tab k)) A.f_39 sc_39 (by decide) fun cdv A outer s H E hr => body_39 C hr
  q_39 := A.q_39
  o_40 := fn_ok (N := N_40) (keep := false) (b := b_40 (tab k)) A.f_40 sc_40 (by decide) fun cdv A outer s H E hr => body_40 C hr
  q_40 := A.q_40
  o_41 := fn_ok (N := N_41) (keep := false) (b := b_41 (tab k)) A.f_41 sc_41 (by decide) fun cdv A outer s H E hr => body_41 C hr
  q_41 := A.q_41
  o_42 := fn_ok (N := N_42) (keep := false) (b := b_42 (tab k)) A.f_42 sc_42 (by decide) fun cdv A outer s H E hr => body_42 C hr
  q_42 := A.q_42
  o_44 := fn_ok (N := N_44) (keep := false) (b := b_44 (tab k)) A.f_44 sc_44 (by decide) fun cdv A outer s H E hr => body_44 C hr
  q_44 := A.q_44
  o_46 := fn_ok (N := N_46) (keep := true) (b := b_46 (tab k)) A.f_46 sc_46 (by decide) fun cdv A outer s H E hr => body_46 C hr
  q_46 := A.q_46
  o_47 := fn_ok (N := N_47) (keep := false) (b := b_47 (tab k)) A.f_47 sc_47 (by decide) fun cdv A outer s H E hr => body_47 C hr
  q_47 := A.q_47
  o_48 := fn_ok (N := N_48) (keep := false) (b := b_48 (tab k)) A.f_48 sc_48 (by decide) fun cdv A outer s H E hr => body_48 C hr
  q_48 := A.q_48
  o_49 := fn_ok (N := N_49) (keep := false) (b := b_49 (tab k)) A.f_49 sc_49 (by decide) fun cdv A outer s H E hr => body_49 C hr
  q_49 := A.q_49
  o_50 := fn_pure (fn_ok (N := N_50) (keep := false) (b := b_50 (tab k)) A.f_50 sc_50 (by decide) fun cdv A outer s H E hr => body_50 C hr)
  q_50 := A.q_50
  o_51 := fn_ok (N := N_51) (keep := false) (b := b_51 (tab k)) A.f_51 sc_51 (by decide) fun cdv A outer s H E hr => body_51 C hr
  q_51 := A.q_51
  o_52 := fn_ok (N := N_52) (keep := false) (b := b_52 (tab k)) A.f_52 sc_52 (by decide) fun cdv A outer s H E hr => body_52 C hr
  q_52 := A.q_52
  o_53 := fn_ok (N := N_53) (keep := false) (b := b_53 (tab k)) A.f_53 sc_53 (by decide) fun cdv A outer s H E hr => body_53 C hr
  q_53 := A.q_53
  o_54 := fn_ok (N := N_54) (keep := false) (b := b_54 (tab k)) A.f_54 sc_54 (by decide) fun cdv A outer s H E hr => body_54 C hr
  q_54 := A.q_54
  o_55 := fn_ok (N := N_55) (keep := false) (b := b_55 (tab k)) A.f_55 sc_55 (by decide) fun cdv A outer s H E hr => body_55 C hr
  q_55 := A.q_55
  o_56 := fn_ok (N := N_56) (keep := false) (b := b_56 (tab k)) A.f_56 sc_56 (by decide) fun cdv A outer s H E hr => body_56 C hr
  q_56 := A.q_56
  o_57 := fn_ok (N := N_57) (keep := false) (b := b_57 (tab k)) A.f_57 sc_57 (by decide) fun cdv A outer s H E hr => body_57 C hr
  q_57 := A.q_57
  o_58 := fn_ok (N := N_58) (keep := false) (b := b_58 (tab k)) A.f_58 sc_58 (by decide) fun cdv A outer s H E hr => body_58 C hr
  q_58 := A.q_58
  o_59 := fn_ok (N := N_59) (keep := false) (b := b_59 (tab k)) A.f_59 sc_59 (by decide) fun cdv A outer s H E hr => body_59 C hr
  q_59 := A.q_59
  z_abs := A.z_abs
  z_all := A.z_all
  z_bool := A.z_bool
  z_enumerate := A.z_enumerate
  z_int := A.z_int
  z_isinstance := A.z_isinstance
  z_len := A.z_len
  z_max := A.z_max
  z_min := A.z_min
  z_range := A.z_range
  z_sorted := A.z_sorted
  z_sum := A.z_sum
  z_tuple := A.z_tuple
  z_zip := A.z_zip
  t_NUMBERS := A.t_NUMBERS
theorem cn_all {P : Program} {w : World} {K : PySem.W.Frag} {mg : Str → Option Value} {base : Heap} {f : Nat → Addr} {fd : Nat → FuncData} (A : An w K mg f fd) : ∀ k, Cn P w K mg base k f fd
  | 0 => cn_zero A
  | k + 1 => cn_succ A (cn_all A k)
noncomputable def spLaw (K : PySem.W.Frag) : Sp := fun vs H Q _ => ∃ (a : Addr) (ns : List Int), vs = [.ref a] ∧ SqL K H a (ns.map V.int) ∧ ns.length ≤ 63 ∧ ∀ H', Q (.bl true) H'
theorem relL_ints {K : PySem.W.Frag} {H : Hp} {ι : Ix} : ∀ ns : List Int, RelL K H ι (ns.map D.int) (ns.map V.int)
  | [] => by simp [RelL]
  | n :: ns => by
    simp only [List.map_cons, RelL]
    exact ⟨_, _, rfl, by simp [Rel], relL_ints ns⟩
theorem sp_law {K : PySem.W.Frag} {fn : Fn} (h : ∀ ns : List Int, ns.length ≤ 63 → ∃ g', fn [.lst (ns.map .int)] [] = some (.bl true, g')) (vs : List V) (H : Hp) (Q : VK) (E : XK) (q : spLaw K vs H Q E) : spD K 1 fn vs H Q E := by
  obtain ⟨a, ns, rfl, hS, hl, hq⟩ := q
  obtain ⟨g', hg⟩ := h ns hl
  refine ⟨rfl, ⟨[], []⟩, [], [.lst (ns.map .int)], .bl true, g', ⟨List.nodup_nil, rfl, (fun b hb => by cases hb), (fun i xs z => by simp at z)⟩, ?_, hg, fun H' ι' v e G r => ?_⟩
  · simp only [RelL]
    refine ⟨_, _, rfl, ?_, rfl⟩
    simp only [Rel]
    refine ⟨a, _, rfl, ?_, relL_ints ns⟩
    rcases hS with hS | hS
    · exact .inl ⟨hS, by simp, by simp⟩
    · exact .inr hS
  · simp only [Rel] at r
    rw [r]
    exact hq H'
theorem us_1 {fd : FuncData} {p : List Str} (h : ∀ x0, bindArgs fd { pos := [x0] } = pure (p.zip [x0])) : ∀ us : List Value, us.length = 1 → bindArgs fd { pos := us } = pure (p.zip us)
  | [x0], _ => h x0
theorem us_2 {fd : FuncData} {p : List Str} (h : ∀ x0 x1, bindArgs fd { pos := [x0, x1] } = pure (p.zip [x0, x1])) : ∀ us : List Value, us.length = 2 → bindArgs fd { pos := us } = pure (p.zip us)
  | [x0, x1], _ => h x0 x1
theorem us_3 {fd : FuncData} {p : List Str} (h : ∀ x0 x1 x2, bindArgs fd { pos := [x0, x1, x2] } = pure (p.zip [x0, x1, x2])) : ∀ us : List Value, us.length = 3 → bindArgs fd { pos := us } = pure (p.zip us)
  | [x0, x1, x2], _ => h x0 x1 x2
theorem us_4 {fd : FuncData} {p : List Str} (h : ∀ x0 x1 x2 x3, bindArgs fd { pos := [x0, x1, x2, x3] } = pure (p.zip [x0, x1, x2, x3])) : ∀ us : List Value, us.length = 4 → bindArgs fd { pos := us } = pure (p.zip us)
  | [x0, x1, x2, x3], _ => h x0 x1 x2 x3
set_option maxHeartbeats 0 in
theorem all_mk {l : PySem.W.OpenLaw} {w : World} {K : PySem.W.Frag} {h : Heap} {mg : Str → Option Value} {fa : Addr} (X : K.In h) (G : h.Ns mainGlobals mg) (hfa : mg "law" = some (.ref fa))
    {od1 an1 sl1 oc1 kV1 dc1 pm1 cd1 ct1 f1}
    {od2 an2 sl2 oc2 kV2 dc2 pm2 cd2 ct2 f2}
    {od3 an3 sl3 oc3 kV3 dc3 pm3 cd3 ct3 f3}
    {od4 an4 sl4 oc4 kV4 dc4 pm4 cd4 ct4 f4}
    {od5 an5 sl5 oc5 kV5 dc5 pm5 cd5 ct5 f5}
    {od6 an6 sl6 oc6 kV6 dc6 pm6 cd6 ct6 f6}
    {od7 an7 sl7 oc7 kV7 dc7 pm7 cd7 ct7 f7}
    {od10 an10 sl10 oc10 kV10 dc10 pm10 cd10 ct10 f10}
    {od11 an11 sl11 oc11 kV11 dc11 pm11 cd11 ct11 f11}
    {od20 an20 sl20 oc20 kV20 dc20 pm20 cd20 ct20 f20}
    {od21 an21 sl21 oc21 kV21 dc21 pm21 cd21 ct21 f21}
    {od23 an23 sl23 oc23 kV23 dc23 pm23 cd23 ct23 f23}
    {od24 an24 sl24 oc24 kV24 dc24 pm24 cd24 ct24 f24}
    {od25 an25 sl25 oc25 kV25 dc25 pm25 cd25 ct25 f25}
    {od27 an27 sl27 oc27 kV27 dc27 pm27 cd27 ct27 f27}
    {od29 an29 sl29 oc29 kV29 dc29 pm29 cd29 ct29 f29}
    {od32 an32 sl32 oc32 kV32 dc32 pm32 cd32 ct32 f32}
    {od33 an33 sl33 oc33 kV33 dc33 pm33 cd33 ct33 f33}
    {od35 an35 sl35 oc35 kV35 dc35 pm35 cd35 ct35 f35}
    {od36 an36 sl36 oc36 kV36 dc36 pm36 cd36 ct36 f36}
    {od38 an38 sl38 oc38 kV38 dc38 pm38 cd38 ct38 f38}
    {od39 an39 sl39 oc39 kV39 dc39 pm39 cd39 ct39 f39}
    {od40 an40 sl40 oc40 kV40 dc40 pm40 cd40 ct40 f40}
    {od41 an41 sl41 oc41 kV41 dc41 pm41 cd41 ct41 f41}
    {od42 an42 sl42 oc42 kV42 dc42 pm42 cd42 ct42 f42}
    {od44 an44 sl44 oc44 kV44 dc44 pm44 cd44 ct44 f44}
    {od46 an46 sl46 oc46 kV46 dc46 pm46 cd46 ct46 f46}
    {od47 an47 sl47 oc47 kV47 dc47 pm47 cd47 ct47 f47}
    {od48 an48 sl48 oc48 kV48 dc48 pm48 cd48 ct48 f48}
    {od49 an49 sl49 oc49 kV49 dc49 pm49 cd49 ct49 f49}
    {od50 an50 sl50 oc50 kV50 dc50 pm50 cd50 ct50 f50}
    {od51 an51 sl51 oc51 kV51 dc51 pm51 cd51 ct51 f51}
    {od52 an52 sl52 oc52 kV52 dc52 pm52 cd52 ct52 f52}
    {od53 an53 sl53 oc53 kV53 dc53 pm53 cd53 ct53 f53}
    {od54 an54 sl54 oc54 kV54 dc54 pm54 cd54 ct54 f54}
    {od55 an55 sl55 oc55 kV55 dc55 pm55 cd55 ct55 f55}
    {od56 an56 sl56 oc56 kV56 dc56 pm56 cd56 ct56 f56}
    {od57 an57 sl57 oc57 kV57 dc57 pm57 cd57 ct57 f57}
    {od58 an58 sl58 oc58 kV58 dc58 pm58 cd58 ct58 f58}
    {od59 an59 sl59 oc59 kV59 dc59 pm59 cd59 ct59 f59}
    {da_NUMBERS : Addr} {dep_NUMBERS : _}
    {dt_NUMBERS_0 : _}
    {db_NUMBERS_0 : Addr} {dn_NUMBERS_0 : _} {dsl_NUMBERS_0 : Array (Option Value)}
    {du_NUMBERS_0_0 : _}
    {dt_NUMBERS_1 : _}
    {db_NUMBERS_1 : Addr} {dn_NUMBERS_1 : _} {dsl_NUMBERS_1 : Array (Option Value)}
    {du_NUMBERS_1_0 : _}
    {du_NUMBERS_1_1 : _}
    {dt_NUMBERS_2 : _}
    {db_NUMBERS_2 : Addr} {dn_NUMBERS_2 : _} {dsl_NUMBERS_2 : Array (Option Value)}
    {du_NUMBERS_2_0 : _}
    {du_NUMBERS_2_1 : _}
    {du_NUMBERS_2_2 : _}
    {dt_NUMBERS_3 : _}
    {db_NUMBERS_3 : Addr} {dn_NUMBERS_3 : _} {dsl_NUMBERS_3 : Array (Option Value)}
    {du_NUMBERS_3_0 : _}
    {du_NUMBERS_3_1 : _}
    {du_NUMBERS_3_2 : _}
    {du_NUMBERS_3_3 : _}
    {dt_NUMBERS_4 : _}
    {db_NUMBERS_4 : Addr} {dn_NUMBERS_4 : _} {dsl_NUMBERS_4 : Array (Option Value)}
    {du_NUMBERS_4_0 : _}
    {du_NUMBERS_4_1 : _}
    {du_NUMBERS_4_2 : _}
    {du_NUMBERS_4_3 : _}
    {du_NUMBERS_4_4 : _}
    {dt_NUMBERS_5 : _}
    {db_NUMBERS_5 : Addr} {dn_NUMBERS_5 : _} {dsl_NUMBERS_5 : Array (Option Value)}
    {du_NUMBERS_5_0 : _}
    {du_NUMBERS_5_1 : _}
    (a1 : PySem.W.nsIn K mainGlobals "closer_course" = some (some (.ref f1))) (l1 : K.lookup f1 = some ⟨oc1, od1, .func (PySem.W.fnOf "closer_course" "closer_course" (defArgs (top 1)) (defBody (top 1)) (defScope (top 1)) .none kV1 dc1 pm1 an1 cd1 ct1), sl1⟩) (e1 : PySem.W.codeIn K cd1 "closer_course" = true) (k1 : PySem.W.keepIn K (.ref f1) = true)
    (a2 : PySem.W.nsIn K mainGlobals "others_of_round" = some (some (.ref f2))) (l2 : K.lookup f2 = some ⟨oc2, od2, .func (PySem.W.fnOf "others_of_round" "others_of_round" (defArgs (top 2)) (defBody (top 2)) (defScope (top 2)) .none kV2 dc2 pm2 an2 cd2 ct2), sl2⟩) (e2 : PySem.W.codeIn K cd2 "others_of_round" = true) (k2 : PySem.W.keepIn K (.ref f2) = true)
    (a3 : PySem.W.nsIn K mainGlobals "middle" = some (some (.ref f3))) (l3 : K.lookup f3 = some ⟨oc3, od3, .func (PySem.W.fnOf "middle" "middle" (defArgs (top 3)) (defBody (top 3)) (defScope (top 3)) .none kV3 dc3 pm3 an3 cd3 ct3), sl3⟩) (e3 : PySem.W.codeIn K cd3 "middle" = true) (k3 : PySem.W.keepIn K (.ref f3) = true)
    (a4 : PySem.W.nsIn K mainGlobals "is_less" = some (some (.ref f4))) (l4 : K.lookup f4 = some ⟨oc4, od4, .func (PySem.W.fnOf "is_less" "is_less" (defArgs (top 4)) (defBody (top 4)) (defScope (top 4)) .none kV4 dc4 pm4 an4 cd4 ct4), sl4⟩) (e4 : PySem.W.codeIn K cd4 "is_less" = true) (k4 : PySem.W.keepIn K (.ref f4) = true)
    (a5 : PySem.W.nsIn K mainGlobals "half_sum" = some (some (.ref f5))) (l5 : K.lookup f5 = some ⟨oc5, od5, .func (PySem.W.fnOf "half_sum" "half_sum" (defArgs (top 5)) (defBody (top 5)) (defScope (top 5)) .none kV5 dc5 pm5 an5 cd5 ct5), sl5⟩) (e5 : PySem.W.codeIn K cd5 "half_sum" = true) (k5 : PySem.W.keepIn K (.ref f5) = true)
    (a6 : PySem.W.nsIn K mainGlobals "lowest_terms" = some (some (.ref f6))) (l6 : K.lookup f6 = some ⟨oc6, od6, .func (PySem.W.fnOf "lowest_terms" "lowest_terms" (defArgs (top 6)) (defBody (top 6)) (defScope (top 6)) .none kV6 dc6 pm6 an6 cd6 ct6), sl6⟩) (e6 : PySem.W.codeIn K cd6 "lowest_terms" = true) (k6 : PySem.W.keepIn K (.ref f6) = true)
    (a7 : PySem.W.nsIn K mainGlobals "common_divisor" = some (some (.ref f7))) (l7 : K.lookup f7 = some ⟨oc7, od7, .func (PySem.W.fnOf "common_divisor" "common_divisor" (defArgs (top 7)) (defBody (top 7)) (defScope (top 7)) .none kV7 dc7 pm7 an7 cd7 ct7), sl7⟩) (e7 : PySem.W.codeIn K cd7 "common_divisor" = true) (k7 : PySem.W.keepIn K (.ref f7) = true)
    (a10 : PySem.W.nsIn K mainGlobals "number_of" = some (some (.ref f10))) (l10 : K.lookup f10 = some ⟨oc10, od10, .func (PySem.W.fnOf "number_of" "number_of" (defArgs (top 10)) (defBody (top 10)) (defScope (top 10)) .none kV10 dc10 pm10 an10 cd10 ct10), sl10⟩) (e10 : PySem.W.codeIn K cd10 "number_of" = true) (k10 : PySem.W.keepIn K (.ref f10) = true)
    (a11 : PySem.W.nsIn K mainGlobals "hands_of" = some (some (.ref f11))) (l11 : K.lookup f11 = some ⟨oc11, od11, .func (PySem.W.fnOf "hands_of" "hands_of" (defArgs (top 11)) (defBody (top 11)) (defScope (top 11)) .none kV11 dc11 pm11 an11 cd11 ct11), sl11⟩) (e11 : PySem.W.codeIn K cd11 "hands_of" = true) (k11 : PySem.W.keepIn K (.ref f11) = true)
    (a20 : PySem.W.nsIn K mainGlobals "sums_course" = some (some (.ref f20))) (l20 : K.lookup f20 = some ⟨oc20, od20, .func (PySem.W.fnOf "sums_course" "sums_course" (defArgs (top 20)) (defBody (top 20)) (defScope (top 20)) .none kV20 dc20 pm20 an20 cd20 ct20), sl20⟩) (e20 : PySem.W.codeIn K cd20 "sums_course" = true) (k20 : PySem.W.keepIn K (.ref f20) = true)
    (a21 : PySem.W.nsIn K mainGlobals "sums_deed" = some (some (.ref f21))) (l21 : K.lookup f21 = some ⟨oc21, od21, .func (PySem.W.fnOf "sums_deed" "sums_deed" (defArgs (top 21)) (defBody (top 21)) (defScope (top 21)) .none kV21 dc21 pm21 an21 cd21 ct21), sl21⟩) (e21 : PySem.W.codeIn K cd21 "sums_deed" = true) (k21 : PySem.W.keepIn K (.ref f21) = true)
    (a23 : PySem.W.nsIn K mainGlobals "answer_of" = some (some (.ref f23))) (l23 : K.lookup f23 = some ⟨oc23, od23, .func (PySem.W.fnOf "answer_of" "answer_of" (defArgs (top 23)) (defBody (top 23)) (defScope (top 23)) .none kV23 dc23 pm23 an23 cd23 ct23), sl23⟩) (e23 : PySem.W.codeIn K cd23 "answer_of" = true) (k23 : PySem.W.keepIn K (.ref f23) = true)
    (a24 : PySem.W.nsIn K mainGlobals "course" = some (some (.ref f24))) (l24 : K.lookup f24 = some ⟨oc24, od24, .func (PySem.W.fnOf "course" "course" (defArgs (top 24)) (defBody (top 24)) (defScope (top 24)) .none kV24 dc24 pm24 an24 cd24 ct24), sl24⟩) (e24 : PySem.W.codeIn K cd24 "course" = true) (k24 : PySem.W.keepIn K (.ref f24) = true)
    (a25 : PySem.W.nsIn K mainGlobals "deeds_course" = some (some (.ref f25))) (l25 : K.lookup f25 = some ⟨oc25, od25, .func (PySem.W.fnOf "deeds_course" "deeds_course" (defArgs (top 25)) (defBody (top 25)) (defScope (top 25)) .none kV25 dc25 pm25 an25 cd25 ct25), sl25⟩) (e25 : PySem.W.codeIn K cd25 "deeds_course" = true) (k25 : PySem.W.keepIn K (.ref f25) = true)
    (a27 : PySem.W.nsIn K mainGlobals "answers_of" = some (some (.ref f27))) (l27 : K.lookup f27 = some ⟨oc27, od27, .func (PySem.W.fnOf "answers_of" "answers_of" (defArgs (top 27)) (defBody (top 27)) (defScope (top 27)) .none kV27 dc27 pm27 an27 cd27 ct27), sl27⟩) (e27 : PySem.W.codeIn K cd27 "answers_of" = true) (k27 : PySem.W.keepIn K (.ref f27) = true)
    (a29 : PySem.W.nsIn K mainGlobals "fit" = some (some (.ref f29))) (l29 : K.lookup f29 = some ⟨oc29, od29, .func (PySem.W.fnOf "fit" "fit" (defArgs (top 29)) (defBody (top 29)) (defScope (top 29)) .none kV29 dc29 pm29 an29 cd29 ct29), sl29⟩) (e29 : PySem.W.codeIn K cd29 "fit" = true) (k29 : PySem.W.keepIn K (.ref f29) = true)
    (a32 : PySem.W.nsIn K mainGlobals "closers_fit" = some (some (.ref f32))) (l32 : K.lookup f32 = some ⟨oc32, od32, .func (PySem.W.fnOf "closers_fit" "closers_fit" (defArgs (top 32)) (defBody (top 32)) (defScope (top 32)) .none kV32 dc32 pm32 an32 cd32 ct32), sl32⟩) (e32 : PySem.W.codeIn K cd32 "closers_fit" = true) (k32 : PySem.W.keepIn K (.ref f32) = true)
    (a33 : PySem.W.nsIn K mainGlobals "are_close" = some (some (.ref f33))) (l33 : K.lookup f33 = some ⟨oc33, od33, .func (PySem.W.fnOf "are_close" "are_close" (defArgs (top 33)) (defBody (top 33)) (defScope (top 33)) .none kV33 dc33 pm33 an33 cd33 ct33), sl33⟩) (e33 : PySem.W.codeIn K cd33 "are_close" = true) (k33 : PySem.W.keepIn K (.ref f33) = true)
    (a35 : PySem.W.nsIn K mainGlobals "first_boxes" = some (some (.ref f35))) (l35 : K.lookup f35 = some ⟨oc35, od35, .func (PySem.W.fnOf "first_boxes" "first_boxes" (defArgs (top 35)) (defBody (top 35)) (defScope (top 35)) .none kV35 dc35 pm35 an35 cd35 ct35), sl35⟩) (e35 : PySem.W.codeIn K cd35 "first_boxes" = true) (k35 : PySem.W.keepIn K (.ref f35) = true)
    (a36 : PySem.W.nsIn K mainGlobals "listed_boxes" = some (some (.ref f36))) (l36 : K.lookup f36 = some ⟨oc36, od36, .func (PySem.W.fnOf "listed_boxes" "listed_boxes" (defArgs (top 36)) (defBody (top 36)) (defScope (top 36)) .none kV36 dc36 pm36 an36 cd36 ct36), sl36⟩) (e36 : PySem.W.codeIn K cd36 "listed_boxes" = true) (k36 : PySem.W.keepIn K (.ref f36) = true)
    (a38 : PySem.W.nsIn K mainGlobals "own_content" = some (some (.ref f38))) (l38 : K.lookup f38 = some ⟨oc38, od38, .func (PySem.W.fnOf "own_content" "own_content" (defArgs (top 38)) (defBody (top 38)) (defScope (top 38)) .none kV38 dc38 pm38 an38 cd38 ct38), sl38⟩) (e38 : PySem.W.codeIn K cd38 "own_content" = true) (k38 : PySem.W.keepIn K (.ref f38) = true)
    (a39 : PySem.W.nsIn K mainGlobals "shake_boxes" = some (some (.ref f39))) (l39 : K.lookup f39 = some ⟨oc39, od39, .func (PySem.W.fnOf "shake_boxes" "shake_boxes" (defArgs (top 39)) (defBody (top 39)) (defScope (top 39)) .none kV39 dc39 pm39 an39 cd39 ct39), sl39⟩) (e39 : PySem.W.codeIn K cd39 "shake_boxes" = true) (k39 : PySem.W.keepIn K (.ref f39) = true)
    (a40 : PySem.W.nsIn K mainGlobals "single_boxes" = some (some (.ref f40))) (l40 : K.lookup f40 = some ⟨oc40, od40, .func (PySem.W.fnOf "single_boxes" "single_boxes" (defArgs (top 40)) (defBody (top 40)) (defScope (top 40)) .none kV40 dc40 pm40 an40 cd40 ct40), sl40⟩) (e40 : PySem.W.codeIn K cd40 "single_boxes" = true) (k40 : PySem.W.keepIn K (.ref f40) = true)
    (a41 : PySem.W.nsIn K mainGlobals "crossed_boxes" = some (some (.ref f41))) (l41 : K.lookup f41 = some ⟨oc41, od41, .func (PySem.W.fnOf "crossed_boxes" "crossed_boxes" (defArgs (top 41)) (defBody (top 41)) (defScope (top 41)) .none kV41 dc41 pm41 an41 cd41 ct41), sl41⟩) (e41 : PySem.W.codeIn K cd41 "crossed_boxes" = true) (k41 : PySem.W.keepIn K (.ref f41) = true)
    (a42 : PySem.W.nsIn K mainGlobals "zeros" = some (some (.ref f42))) (l42 : K.lookup f42 = some ⟨oc42, od42, .func (PySem.W.fnOf "zeros" "zeros" (defArgs (top 42)) (defBody (top 42)) (defScope (top 42)) .none kV42 dc42 pm42 an42 cd42 ct42), sl42⟩) (e42 : PySem.W.codeIn K cd42 "zeros" = true) (k42 : PySem.W.keepIn K (.ref f42) = true)
    (a44 : PySem.W.nsIn K mainGlobals "begun" = some (some (.ref f44))) (l44 : K.lookup f44 = some ⟨oc44, od44, .func (PySem.W.fnOf "begun" "begun" (defArgs (top 44)) (defBody (top 44)) (defScope (top 44)) .none kV44 dc44 pm44 an44 cd44 ct44), sl44⟩) (e44 : PySem.W.codeIn K cd44 "begun" = true) (k44 : PySem.W.keepIn K (.ref f44) = true)
    (a46 : PySem.W.nsIn K mainGlobals "_law_hand" = some (some (.ref f46))) (l46 : K.lookup f46 = some ⟨oc46, od46, .func (PySem.W.fnOf "_law_hand" "_law_hand" (defArgs (top 46)) (defBody (top 46)) (defScope (top 46)) .none kV46 dc46 pm46 an46 cd46 ct46), sl46⟩) (e46 : PySem.W.codeIn K cd46 "_law_hand" = true) (k46 : PySem.W.keepIn K (.ref f46) = true)
    (a47 : PySem.W.nsIn K mainGlobals "_law_take" = some (some (.ref f47))) (l47 : K.lookup f47 = some ⟨oc47, od47, .func (PySem.W.fnOf "_law_take" "_law_take" (defArgs (top 47)) (defBody (top 47)) (defScope (top 47)) .none kV47 dc47 pm47 an47 cd47 ct47), sl47⟩) (e47 : PySem.W.codeIn K cd47 "_law_take" = true) (k47 : PySem.W.keepIn K (.ref f47) = true)
    (a48 : PySem.W.nsIn K mainGlobals "_law_pick" = some (some (.ref f48))) (l48 : K.lookup f48 = some ⟨oc48, od48, .func (PySem.W.fnOf "_law_pick" "_law_pick" (defArgs (top 48)) (defBody (top 48)) (defScope (top 48)) .none kV48 dc48 pm48 an48 cd48 ct48), sl48⟩) (e48 : PySem.W.codeIn K cd48 "_law_pick" = true) (k48 : PySem.W.keepIn K (.ref f48) = true)
    (a49 : PySem.W.nsIn K mainGlobals "_law_own_manner" = some (some (.ref f49))) (l49 : K.lookup f49 = some ⟨oc49, od49, .func (PySem.W.fnOf "_law_own_manner" "_law_own_manner" (defArgs (top 49)) (defBody (top 49)) (defScope (top 49)) .none kV49 dc49 pm49 an49 cd49 ct49), sl49⟩) (e49 : PySem.W.codeIn K cd49 "_law_own_manner" = true) (k49 : PySem.W.keepIn K (.ref f49) = true)
    (a50 : PySem.W.nsIn K mainGlobals "_law_low" = some (some (.ref f50))) (l50 : K.lookup f50 = some ⟨oc50, od50, .func (PySem.W.fnOf "_law_low" "_law_low" (defArgs (top 50)) (defBody (top 50)) (defScope (top 50)) .none kV50 dc50 pm50 an50 cd50 ct50), sl50⟩) (e50 : PySem.W.codeIn K cd50 "_law_low" = true) (k50 : PySem.W.keepIn K (.ref f50) = true)
    (a51 : PySem.W.nsIn K mainGlobals "_law_half" = some (some (.ref f51))) (l51 : K.lookup f51 = some ⟨oc51, od51, .func (PySem.W.fnOf "_law_half" "_law_half" (defArgs (top 51)) (defBody (top 51)) (defScope (top 51)) .none kV51 dc51 pm51 an51 cd51 ct51), sl51⟩) (e51 : PySem.W.codeIn K cd51 "_law_half" = true) (k51 : PySem.W.keepIn K (.ref f51) = true)
    (a52 : PySem.W.nsIn K mainGlobals "_law_end" = some (some (.ref f52))) (l52 : K.lookup f52 = some ⟨oc52, od52, .func (PySem.W.fnOf "_law_end" "_law_end" (defArgs (top 52)) (defBody (top 52)) (defScope (top 52)) .none kV52 dc52 pm52 an52 cd52 ct52), sl52⟩) (e52 : PySem.W.codeIn K cd52 "_law_end" = true) (k52 : PySem.W.keepIn K (.ref f52) = true)
    (a53 : PySem.W.nsIn K mainGlobals "_law_row" = some (some (.ref f53))) (l53 : K.lookup f53 = some ⟨oc53, od53, .func (PySem.W.fnOf "_law_row" "_law_row" (defArgs (top 53)) (defBody (top 53)) (defScope (top 53)) .none kV53 dc53 pm53 an53 cd53 ct53), sl53⟩) (e53 : PySem.W.codeIn K cd53 "_law_row" = true) (k53 : PySem.W.keepIn K (.ref f53) = true)
    (a54 : PySem.W.nsIn K mainGlobals "_law_told" = some (some (.ref f54))) (l54 : K.lookup f54 = some ⟨oc54, od54, .func (PySem.W.fnOf "_law_told" "_law_told" (defArgs (top 54)) (defBody (top 54)) (defScope (top 54)) .none kV54 dc54 pm54 an54 cd54 ct54), sl54⟩) (e54 : PySem.W.codeIn K cd54 "_law_told" = true) (k54 : PySem.W.keepIn K (.ref f54) = true)
    (a55 : PySem.W.nsIn K mainGlobals "_law_near" = some (some (.ref f55))) (l55 : K.lookup f55 = some ⟨oc55, od55, .func (PySem.W.fnOf "_law_near" "_law_near" (defArgs (top 55)) (defBody (top 55)) (defScope (top 55)) .none kV55 dc55 pm55 an55 cd55 ct55), sl55⟩) (e55 : PySem.W.codeIn K cd55 "_law_near" = true) (k55 : PySem.W.keepIn K (.ref f55) = true)
    (a56 : PySem.W.nsIn K mainGlobals "_law_due" = some (some (.ref f56))) (l56 : K.lookup f56 = some ⟨oc56, od56, .func (PySem.W.fnOf "_law_due" "_law_due" (defArgs (top 56)) (defBody (top 56)) (defScope (top 56)) .none kV56 dc56 pm56 an56 cd56 ct56), sl56⟩) (e56 : PySem.W.codeIn K cd56 "_law_due" = true) (k56 : PySem.W.keepIn K (.ref f56) = true)
    (a57 : PySem.W.nsIn K mainGlobals "_law_case" = some (some (.ref f57))) (l57 : K.lookup f57 = some ⟨oc57, od57, .func (PySem.W.fnOf "_law_case" "_law_case" (defArgs (top 57)) (defBody (top 57)) (defScope (top 57)) .none kV57 dc57 pm57 an57 cd57 ct57), sl57⟩) (e57 : PySem.W.codeIn K cd57 "_law_case" = true) (k57 : PySem.W.keepIn K (.ref f57) = true)
    (a58 : PySem.W.nsIn K mainGlobals "_law_truth" = some (some (.ref f58))) (l58 : K.lookup f58 = some ⟨oc58, od58, .func (PySem.W.fnOf "_law_truth" "_law_truth" (defArgs (top 58)) (defBody (top 58)) (defScope (top 58)) .none kV58 dc58 pm58 an58 cd58 ct58), sl58⟩) (e58 : PySem.W.codeIn K cd58 "_law_truth" = true) (k58 : PySem.W.keepIn K (.ref f58) = true)
    (a59 : PySem.W.nsIn K mainGlobals "law" = some (some (.ref f59))) (l59 : K.lookup f59 = some ⟨oc59, od59, .func (PySem.W.fnOf "law" "law" (defArgs (top 59)) (defBody (top 59)) (defScope (top 59)) .none kV59 dc59 pm59 an59 cd59 ct59), sl59⟩) (e59 : PySem.W.codeIn K cd59 "law" = true) (k59 : PySem.W.keepIn K (.ref f59) = true)
    (z_abs : PySem.W.nsIn K mainGlobals "abs" = some none)
    (z_all : PySem.W.nsIn K mainGlobals "all" = some none)
    (z_bool : PySem.W.nsIn K mainGlobals "bool" = some none)
    (z_enumerate : PySem.W.nsIn K mainGlobals "enumerate" = some none)
    (z_int : PySem.W.nsIn K mainGlobals "int" = some none)
    (z_isinstance : PySem.W.nsIn K mainGlobals "isinstance" = some none)
    (z_len : PySem.W.nsIn K mainGlobals "len" = some none)
    (z_max : PySem.W.nsIn K mainGlobals "max" = some none)
    (z_min : PySem.W.nsIn K mainGlobals "min" = some none)
    (z_range : PySem.W.nsIn K mainGlobals "range" = some none)
    (z_sorted : PySem.W.nsIn K mainGlobals "sorted" = some none)
    (z_sum : PySem.W.nsIn K mainGlobals "sum" = some none)
    (z_tuple : PySem.W.nsIn K mainGlobals "tuple" = some none)
    (z_zip : PySem.W.nsIn K mainGlobals "zip" = some none)
    (qn_NUMBERS : PySem.W.nsIn K mainGlobals "NUMBERS" = some (some (.ref da_NUMBERS)))
    (ql_NUMBERS : K.lookup da_NUMBERS = some ⟨.type "dict", none, .dict #[⟨PyData.keyHash w.params "once", .str "once" dt_NUMBERS_0, .ref db_NUMBERS_0⟩, ⟨PyData.keyHash w.params "twice", .str "twice" dt_NUMBERS_1, .ref db_NUMBERS_1⟩, ⟨PyData.keyHash w.params "handed", .str "handed" dt_NUMBERS_2, .ref db_NUMBERS_2⟩, ⟨PyData.keyHash w.params "signs", .str "signs" dt_NUMBERS_3, .ref db_NUMBERS_3⟩, ⟨PyData.keyHash w.params "shared", .str "shared" dt_NUMBERS_4, .ref db_NUMBERS_4⟩, ⟨PyData.keyHash w.params "tables", .str "tables" dt_NUMBERS_5, .ref db_NUMBERS_5⟩] dep_NUMBERS, #[]⟩)
    (qv_NUMBERS_0 : K.lookup db_NUMBERS_0 = some ⟨.type "tuple", none, .seq #[(.str "hands" du_NUMBERS_0_0)] dn_NUMBERS_0, dsl_NUMBERS_0⟩)
    (qv_NUMBERS_1 : K.lookup db_NUMBERS_1 = some ⟨.type "tuple", none, .seq #[(.str "hands" du_NUMBERS_1_0), (.str "turn" du_NUMBERS_1_1)] dn_NUMBERS_1, dsl_NUMBERS_1⟩)
    (qv_NUMBERS_2 : K.lookup db_NUMBERS_2 = some ⟨.type "tuple", none, .seq #[(.str "hands" du_NUMBERS_2_0), (.str "turn" du_NUMBERS_2_1), (.str "moves" du_NUMBERS_2_2)] dn_NUMBERS_2, dsl_NUMBERS_2⟩)
    (qv_NUMBERS_3 : K.lookup db_NUMBERS_3 = some ⟨.type "tuple", none, .seq #[(.str "hands" du_NUMBERS_3_0), (.str "toggles" du_NUMBERS_3_1), (.str "shakes" du_NUMBERS_3_2), (.str "moves" du_NUMBERS_3_3)] dn_NUMBERS_3, dsl_NUMBERS_3⟩)
    (qv_NUMBERS_4 : K.lookup db_NUMBERS_4 = some ⟨.type "tuple", none, .seq #[(.str "hands" du_NUMBERS_4_0), (.str "places" du_NUMBERS_4_1), (.str "toggles" du_NUMBERS_4_2), (.str "shakes" du_NUMBERS_4_3), (.str "moves" du_NUMBERS_4_4)] dn_NUMBERS_4, dsl_NUMBERS_4⟩)
    (qv_NUMBERS_5 : K.lookup db_NUMBERS_5 = some ⟨.type "tuple", none, .seq #[(.str "hands" du_NUMBERS_5_0), (.str "boxes" du_NUMBERS_5_1)] dn_NUMBERS_5, dsl_NUMBERS_5⟩)
    (qs_NUMBERS : (da_NUMBERS == sysModules) = false) :
    ∃ fd : FuncData, (∀ (s : Shared) (v : Value), BindsTo s fd ⟨[v], []⟩ [("_law_script", v)]) ∧ ∀ base : Heap, K.In base → base.Ns mainGlobals mg → FnOk l.prog w K mg base CX0 60 fa fd ["_law_script"] (spLaw K) := by
  have e := hfa.symm.trans (PySem.W.mg_of X G a59)
  cases e
  have F1 := fun_mk (st := top 1) l1 e1 k1
  have F2 := fun_mk (st := top 2) l2 e2 k2
  have F3 := fun_mk (st := top 3) l3 e3 k3
  have F4 := fun_mk (st := top 4) l4 e4 k4
  have F5 := fun_mk (st := top 5) l5 e5 k5
  have F6 := fun_mk (st := top 6) l6 e6 k6
  have F7 := fun_mk (st := top 7) l7 e7 k7
  have F10 := fun_mk (st := top 10) l10 e10 k10
  have F11 := fun_mk (st := top 11) l11 e11 k11
  have F20 := fun_mk (st := top 20) l20 e20 k20
  have F21 := fun_mk (st := top 21) l21 e21 k21
  have F23 := fun_mk (st := top 23) l23 e23 k23
  have F24 := fun_mk (st := top 24) l24 e24 k24
  have F25 := fun_mk (st := top 25) l25 e25 k25
  have F27 := fun_mk (st := top 27) l27 e27 k27
  have F29 := fun_mk (st := top 29) l29 e29 k29
  have F32 := fun_mk (st := top 32) l32 e32 k32
  have F33 := fun_mk (st := top 33) l33 e33 k33
  have F35 := fun_mk (st := top 35) l35 e35 k35
  have F36 := fun_mk (st := top 36) l36 e36 k36
  have F38 := fun_mk (st := top 38) l38 e38 k38
  have F39 := fun_mk (st := top 39) l39 e39 k39
  have F40 := fun_mk (st := top 40) l40 e40 k40
  have F41 := fun_mk (st := top 41) l41 e41 k41
  have F42 := fun_mk (st := top 42) l42 e42 k42
  have F44 := fun_mk (st := top 44) l44 e44 k44
  have F46 := fun_mk (st := top 46) l46 e46 k46
  have F47 := fun_mk (st := top 47) l47 e47 k47
  have F48 := fun_mk (st := top 48) l48 e48 k48
  have F49 := fun_mk (st := top 49) l49 e49 k49
  have F50 := fun_mk (st := top 50) l50 e50 k50
  have F51 := fun_mk (st := top 51) l51 e51 k51
  have F52 := fun_mk (st := top 52) l52 e52 k52
  have F53 := fun_mk (st := top 53) l53 e53 k53
  have F54 := fun_mk (st := top 54) l54 e54 k54
  have F55 := fun_mk (st := top 55) l55 e55 k55
  have F56 := fun_mk (st := top 56) l56 e56 k56
  have F57 := fun_mk (st := top 57) l57 e57 k57
  have F58 := fun_mk (st := top 58) l58 e58 k58
  have F59 := fun_mk (st := top 59) l59 e59 k59
  have A : An w K mg (fun i => ([fa, f1, f2, f3, f4, f5, f6, f7, fa, fa, f10, f11, fa, fa, fa, fa, fa, fa, fa, fa, f20, f21, fa, f23, f24, f25, fa, f27, fa, f29, fa, fa, f32, f33, fa, f35, f36, fa, f38, f39, f40, f41, f42, fa, f44, fa, f46, f47, f48, f49, f50, f51, f52, f53, f54, f55, f56, f57, f58, fa] : List Addr).getD i fa) (fun i => ([PySem.W.fnOf "law" "law" (defArgs (top 59)) (defBody (top 59)) (defScope (top 59)) .none kV59 dc59 pm59 an59 cd59 ct59, PySem.W.fnOf "closer_course" "closer_course" (defArgs (top 1)) (defBody (top 1)) (defScope (top 1)) .none kV1 dc1 pm1 an1 cd1 ct1, PySem.W.fnOf "others_of_round" "others_of_round" (defArgs (top 2)) (defBody (top 2)) (defScope (top 2)) .none kV2 dc2 pm2 an2 cd2 ct2, PySem.W.fnOf "middle" "middle" (defArgs (top 3)) (defBody (top 3)) (defScope (top 3)) .none kV3 dc3 pm3 an3 cd3 ct3, PySem.W.fnOf "is_less" "is_less" (defArgs (top 4)) (defBody (top 4)) (defScope (top 4)) .none kV4 dc4 pm4 an4 cd4 ct4, PySem.W.fnOf "half_sum" "half_sum" (defArgs (top 5)) (defBody (top 5)) (defScope (top 5)) .none kV5 dc5 pm5 an5 cd5 ct5, PySem.W.fnOf "lowest_terms" "lowest_terms" (defArgs (top 6)) (defBody (top 6)) (defScope (top 6)) .none kV6 dc6 pm6 an6 cd6 ct6, PySem.W.fnOf "common_divisor" "common_divisor" (defArgs (top 7)) (defBody (top 7)) (defScope (top 7)) .none kV7 dc7 pm7 an7 cd7 ct7, PySem.W.fnOf "law" "law" (defArgs (top 59)) (defBody (top 59)) (defScope (top 59)) .none kV59 dc59 pm59 an59 cd59 ct59, PySem.W.fnOf "law" "law" (defArgs (top 59)) (defBody (top 59)) (defScope (top 59)) .none kV59 dc59 pm59 an59 cd59 ct59, PySem.W.fnOf "number_of" "number_of" (defArgs (top 10)) (defBody (top 10)) (defScope (top 10)) .none kV10 dc10 pm10 an10 cd10 ct10, PySem.W.fnOf "hands_of" "hands_of" (defArgs (top 11)) (defBody (top 11)) (defScope (top 11)) .none kV11 dc11 pm11 an11 cd11 ct11, PySem.W.fnOf "law" "law" (defArgs (top 59)) (defBody (top 59)) (defScope (top 59)) .none kV59 dc59 pm59 an59 cd59 ct59, PySem.W.fnOf "law" "law" (defArgs (top 59)) (defBody (top 59)) (defScope (top 59)) .none kV59 dc59 pm59 an59 cd59 ct59, PySem.W.fnOf "law" "law" (defArgs (top 59)) (defBody (top 59)) (defScope (top 59)) .none kV59 dc59 pm59 an59 cd59 ct59, PySem.W.fnOf "law" "law" (defArgs (top 59)) (defBody (top 59)) (defScope (top 59)) .none kV59 dc59 pm59 an59 cd59 ct59, PySem.W.fnOf "law" "law" (defArgs (top 59)) (defBody (top 59)) (defScope (top 59)) .none kV59 dc59 pm59 an59 cd59 ct59, PySem.W.fnOf "law" "law" (defArgs (top 59)) (defBody (top 59)) (defScope (top 59)) .none kV59 dc59 pm59 an59 cd59 ct59, PySem.W.fnOf "law" "law" (defArgs (top 59)) (defBody (top 59)) (defScope (top 59)) .none kV59 dc59 pm59 an59 cd59 ct59, PySem.W.fnOf "law" "law" (defArgs (top 59)) (defBody (top 59)) (defScope (top 59)) .none kV59 dc59 pm59 an59 cd59 ct59, PySem.W.fnOf "sums_course" "sums_course" (defArgs (top 20)) (defBody (top 20)) (defScope (top 20)) .none kV20 dc20 pm20 an20 cd20 ct20, PySem.W.fnOf "sums_deed" "sums_deed" (defArgs (top 21)) (defBody (top 21)) (defScope (top 21)) .none kV21 dc21 pm21 an21 cd21 ct21, PySem.W.fnOf "law" "law" (defArgs (top 59)) (defBody (top 59)) (defScope (top 59)) .none kV59 dc59 pm59 an59 cd59 ct59, PySem.W.fnOf "answer_of" "answer_of" (defArgs (top 23)) (defBody (top 23)) (defScope (top 23)) .none kV23 dc23 pm23 an23 cd23 ct23, PySem.W.fnOf "course" "course" (defArgs (top 24)) (defBody (top 24)) (defScope (top 24)) .none kV24 dc24 pm24 an24 cd24 ct24, PySem.W.fnOf "deeds_course" "deeds_course" (defArgs (top 25)) (defBody (top 25)) (defScope (top 25)) .none kV25 dc25 pm25 an25 cd25 ct25, PySem.W.fnOf "law" "law" (defArgs (top 59)) (defBody (top 59)) (defScope (top 59)) .none kV59 dc59 pm59 an59 cd59 ct59, PySem.W.fnOf "answers_of" "answers_of" (defArgs (top 27)) (defBody (top 27)) (defScope (top 27)) .none kV27 dc27 pm27 an27 cd27 ct27, PySem.W.fnOf "law" "law" (defArgs (top 59)) (defBody (top 59)) (defScope (top 59)) .none kV59 dc59 pm59 an59 cd59 ct59, PySem.W.fnOf "fit" "fit" (defArgs (top 29)) (defBody (top 29)) (defScope (top 29)) .none kV29 dc29 pm29 an29 cd29 ct29, PySem.W.fnOf "law" "law" (defArgs (top 59)) (defBody (top 59)) (defScope (top 59)) .none kV59 dc59 pm59 an59 cd59 ct59, PySem.W.fnOf "law" "law" (defArgs (top 59)) (defBody (top 59)) (defScope (top 59)) .none kV59 dc59 pm59 an59 cd59 ct59, PySem.W.fnOf "closers_fit" "closers_fit" (defArgs (top 32)) (defBody (top 32)) (defScope (top 32)) .none kV32 dc32 pm32 an32 cd32 ct32, PySem.W.fnOf "are_close" "are_close" (defArgs (top 33)) (defBody (top 33)) (defScope (top 33)) .none kV33 dc33 pm33 an33 cd33 ct33, PySem.W.fnOf "law" "law" (defArgs (top 59)) (defBody (top 59)) (defScope (top 59)) .none kV59 dc59 pm59 an59 cd59 ct59, PySem.W.fnOf "first_boxes" "first_boxes" (defArgs (top 35)) (defBody (top 35)) (defScope (top 35)) .none kV35 dc35 pm35 an35 cd35 ct35, PySem.W.fnOf "listed_boxes" "listed_boxes" (defArgs (top 36)) (defBody (top 36)) (defScope (top 36)) .none kV36 dc36 pm36 an36 cd36 ct36, PySem.W.fnOf "law" "law" (defArgs (top 59)) (defBody (top 59)) (defScope (top 59)) .none kV59 dc59 pm59 an59 cd59 ct59, PySem.W.fnOf "own_content" "own_content" (defArgs (top 38)) (defBody (top 38)) (defScope (top 38)) .none kV38 dc38 pm38 an38 cd38 ct38, PySem.W.fnOf "shake_boxes" "shake_boxes" (defArgs (top 39)) (defBody (top 39)) (defScope (top 39)) .none kV39 dc39 pm39 an39 cd39 ct39, PySem.W.fnOf "single_boxes" "single_boxes" (defArgs (top 40)) (defBody (top 40)) (defScope (top 40)) .none kV40 dc40 pm40 an40 cd40 ct40, PySem.W.fnOf "crossed_boxes" "crossed_boxes" (defArgs (top 41)) (defBody (top 41)) (defScope (top 41)) .none kV41 dc41 pm41 an41 cd41 ct41, PySem.W.fnOf "zeros" "zeros" (defArgs (top 42)) (defBody (top 42)) (defScope (top 42)) .none kV42 dc42 pm42 an42 cd42 ct42, PySem.W.fnOf "law" "law" (defArgs (top 59)) (defBody (top 59)) (defScope (top 59)) .none kV59 dc59 pm59 an59 cd59 ct59, PySem.W.fnOf "begun" "begun" (defArgs (top 44)) (defBody (top 44)) (defScope (top 44)) .none kV44 dc44 pm44 an44 cd44 ct44, PySem.W.fnOf "law" "law" (defArgs (top 59)) (defBody (top 59)) (defScope (top 59)) .none kV59 dc59 pm59 an59 cd59 ct59, PySem.W.fnOf "_law_hand" "_law_hand" (defArgs (top 46)) (defBody (top 46)) (defScope (top 46)) .none kV46 dc46 pm46 an46 cd46 ct46, PySem.W.fnOf "_law_take" "_law_take" (defArgs (top 47)) (defBody (top 47)) (defScope (top 47)) .none kV47 dc47 pm47 an47 cd47 ct47, PySem.W.fnOf "_law_pick" "_law_pick" (defArgs (top 48)) (defBody (top 48)) (defScope (top 48)) .none kV48 dc48 pm48 an48 cd48 ct48, PySem.W.fnOf "_law_own_manner" "_law_own_manner" (defArgs (top 49)) (defBody (top 49)) (defScope (top 49)) .none kV49 dc49 pm49 an49 cd49 ct49, PySem.W.fnOf "_law_low" "_law_low" (defArgs (top 50)) (defBody (top 50)) (defScope (top 50)) .none kV50 dc50 pm50 an50 cd50 ct50, PySem.W.fnOf "_law_half" "_law_half" (defArgs (top 51)) (defBody (top 51)) (defScope (top 51)) .none kV51 dc51 pm51 an51 cd51 ct51, PySem.W.fnOf "_law_end" "_law_end" (defArgs (top 52)) (defBody (top 52)) (defScope (top 52)) .none kV52 dc52 pm52 an52 cd52 ct52, PySem.W.fnOf "_law_row" "_law_row" (defArgs (top 53)) (defBody (top 53)) (defScope (top 53)) .none kV53 dc53 pm53 an53 cd53 ct53, PySem.W.fnOf "_law_told" "_law_told" (defArgs (top 54)) (defBody (top 54)) (defScope (top 54)) .none kV54 dc54 pm54 an54 cd54 ct54, PySem.W.fnOf "_law_near" "_law_near" (defArgs (top 55)) (defBody (top 55)) (defScope (top 55)) .none kV55 dc55 pm55 an55 cd55 ct55, PySem.W.fnOf "_law_due" "_law_due" (defArgs (top 56)) (defBody (top 56)) (defScope (top 56)) .none kV56 dc56 pm56 an56 cd56 ct56, PySem.W.fnOf "_law_case" "_law_case" (defArgs (top 57)) (defBody (top 57)) (defScope (top 57)) .none kV57 dc57 pm57 an57 cd57 ct57, PySem.W.fnOf "_law_truth" "_law_truth" (defArgs (top 58)) (defBody (top 58)) (defScope (top 58)) .none kV58 dc58 pm58 an58 cd58 ct58, PySem.W.fnOf "law" "law" (defArgs (top 59)) (defBody (top 59)) (defScope (top 59)) .none kV59 dc59 pm59 an59 cd59 ct59] : List FuncData).getD i (PySem.W.fnOf "law" "law" (defArgs (top 59)) (defBody (top 59)) (defScope (top 59)) .none kV59 dc59 pm59 an59 cd59 ct59)) :=
    {
      f_1 := F1,
      q_1 := ⟨PySem.W.mg_of X G a1, F1.kp, F1.binds (ps := P_1) fun _ _ _ _ _ _ us hl => us_4 (fun _ _ _ _ => rfl) us hl⟩,
      f_2 := F2,
      q_2 := ⟨PySem.W.mg_of X G a2, F2.kp, F2.binds (ps := P_2) fun _ _ _ _ _ _ us hl => us_3 (fun _ _ _ => rfl) us hl⟩,
      f_3 := F3,
      q_3 := ⟨PySem.W.mg_of X G a3, F3.kp, F3.binds (ps := P_3) fun _ _ _ _ _ _ us hl => us_1 (fun _ => rfl) us hl⟩,
      f_4 := F4,
      q_4 := ⟨PySem.W.mg_of X G a4, F4.kp, F4.binds (ps := P_4) fun _ _ _ _ _ _ us hl => us_2 (fun _ _ => rfl) us hl⟩,
      f_5 := F5,
      q_5 := ⟨PySem.W.mg_of X G a5, F5.kp, F5.binds (ps := P_5) fun _ _ _ _ _ _ us hl => us_2 (fun _ _ => rfl) us hl⟩,
      f_6 := F6,
      q_6 := ⟨PySem.W.mg_of X G a6, F6.kp, F6.binds (ps := P_6) fun _ _ _ _ _ _ us hl => us_2 (fun _ _ => rfl) us hl⟩,
      f_7 := F7,
      q_7 := ⟨PySem.W.mg_of X G a7, F7.kp, F7.binds (ps := P_7) fun _ _ _ _ _ _ us hl => us_2 (fun _ _ => rfl) us hl⟩,
      f_10 := F10,
      q_10 := ⟨PySem.W.mg_of X G a10, F10.kp, F10.binds (ps := P_10) fun _ _ _ _ _ _ us hl => us_2 (fun _ _ => rfl) us hl⟩,
      f_11 := F11,
      q_11 := ⟨PySem.W.mg_of X G a11, F11.kp, F11.binds (ps := P_11) fun _ _ _ _ _ _ us hl => us_1 (fun _ => rfl) us hl⟩,
      f_20 := F20,
      q_20 := ⟨PySem.W.mg_of X G a20, F20.kp, F20.binds (ps := P_20) fun _ _ _ _ _ _ us hl => us_3 (fun _ _ _ => rfl) us hl⟩,
      f_21 := F21,
      q_21 := ⟨PySem.W.mg_of X G a21, F21.kp, F21.binds (ps := P_21) fun _ _ _ _ _ _ us hl => us_3 (fun _ _ _ => rfl) us hl⟩,
      f_23 := F23,
      q_23 := ⟨PySem.W.mg_of X G a23, F23.kp, F23.binds (ps := P_23) fun _ _ _ _ _ _ us hl => us_3 (fun _ _ _ => rfl) us hl⟩,
      f_24 := F24,
      q_24 := ⟨PySem.W.mg_of X G a24, F24.kp, F24.binds (ps := P_24) fun _ _ _ _ _ _ us hl => us_3 (fun _ _ _ => rfl) us hl⟩,
      f_25 := F25,
      q_25 := ⟨PySem.W.mg_of X G a25, F25.kp, F25.binds (ps := P_25) fun _ _ _ _ _ _ us hl => us_2 (fun _ _ => rfl) us hl⟩,
      f_27 := F27,
      q_27 := ⟨PySem.W.mg_of X G a27, F27.kp, F27.binds (ps := P_27) fun _ _ _ _ _ _ us hl => us_2 (fun _ _ => rfl) us hl⟩,
      f_29 := F29,
      q_29 := ⟨PySem.W.mg_of X G a29, F29.kp, F29.binds (ps := P_29) fun _ _ _ _ _ _ us hl => us_3 (fun _ _ _ => rfl) us hl⟩,
      f_32 := F32,
      q_32 := ⟨PySem.W.mg_of X G a32, F32.kp, F32.binds (ps := P_32) fun _ _ _ _ _ _ us hl => us_3 (fun _ _ _ => rfl) us hl⟩,
      f_33 := F33,
      q_33 := ⟨PySem.W.mg_of X G a33, F33.kp, F33.binds (ps := P_33) fun _ _ _ _ _ _ us hl => us_4 (fun _ _ _ _ => rfl) us hl⟩,
      f_35 := F35,
      q_35 := ⟨PySem.W.mg_of X G a35, F35.kp, F35.binds (ps := P_35) fun _ _ _ _ _ _ us hl => us_1 (fun _ => rfl) us hl⟩,
      f_36 := F36,
      q_36 := ⟨PySem.W.mg_of X G a36, F36.kp, F36.binds (ps := P_36) fun _ _ _ _ _ _ us hl => us_1 (fun _ => rfl) us hl⟩,
      f_38 := F38,
      q_38 := ⟨PySem.W.mg_of X G a38, F38.kp, F38.binds (ps := P_38) fun _ _ _ _ _ _ us hl => us_1 (fun _ => rfl) us hl⟩,
      f_39 := F39,
      q_39 := ⟨PySem.W.mg_of X G a39, F39.kp, F39.binds (ps := P_39) fun _ _ _ _ _ _ us hl => us_2 (fun _ _ => rfl) us hl⟩,
      f_40 := F40,
      q_40 := ⟨PySem.W.mg_of X G a40, F40.kp, F40.binds (ps := P_40) fun _ _ _ _ _ _ us hl => us_3 (fun _ _ _ => rfl) us hl⟩,
      f_41 := F41,
      q_41 := ⟨PySem.W.mg_of X G a41, F41.kp, F41.binds (ps := P_41) fun _ _ _ _ _ _ us hl => us_2 (fun _ _ => rfl) us hl⟩,
      f_42 := F42,
      q_42 := ⟨PySem.W.mg_of X G a42, F42.kp, F42.binds (ps := P_42) fun _ _ _ _ _ _ us hl => us_1 (fun _ => rfl) us hl⟩,
      f_44 := F44,
      q_44 := ⟨PySem.W.mg_of X G a44, F44.kp, F44.binds (ps := P_44) fun _ _ _ _ _ _ us hl => us_2 (fun _ _ => rfl) us hl⟩,
      f_46 := F46,
      q_46 := ⟨PySem.W.mg_of X G a46, F46.kp, F46.binds (ps := P_46) fun _ _ _ _ _ _ us hl => us_2 (fun _ _ => rfl) us hl⟩,
      f_47 := F47,
      q_47 := ⟨PySem.W.mg_of X G a47, F47.kp, F47.binds (ps := P_47) fun _ _ _ _ _ _ us hl => us_2 (fun _ _ => rfl) us hl⟩,
      f_48 := F48,
      q_48 := ⟨PySem.W.mg_of X G a48, F48.kp, F48.binds (ps := P_48) fun _ _ _ _ _ _ us hl => us_2 (fun _ _ => rfl) us hl⟩,
      f_49 := F49,
      q_49 := ⟨PySem.W.mg_of X G a49, F49.kp, F49.binds (ps := P_49) fun _ _ _ _ _ _ us hl => us_2 (fun _ _ => rfl) us hl⟩,
      f_50 := F50,
      q_50 := ⟨PySem.W.mg_of X G a50, F50.kp, F50.binds (ps := P_50) fun _ _ _ _ _ _ us hl => us_2 (fun _ _ => rfl) us hl⟩,
      f_51 := F51,
      q_51 := ⟨PySem.W.mg_of X G a51, F51.kp, F51.binds (ps := P_51) fun _ _ _ _ _ _ us hl => us_2 (fun _ _ => rfl) us hl⟩,
      f_52 := F52,
      q_52 := ⟨PySem.W.mg_of X G a52, F52.kp, F52.binds (ps := P_52) fun _ _ _ _ _ _ us hl => us_2 (fun _ _ => rfl) us hl⟩,
      f_53 := F53,
      q_53 := ⟨PySem.W.mg_of X G a53, F53.kp, F53.binds (ps := P_53) fun _ _ _ _ _ _ us hl => us_2 (fun _ _ => rfl) us hl⟩,
      f_54 := F54,
      q_54 := ⟨PySem.W.mg_of X G a54, F54.kp, F54.binds (ps := P_54) fun _ _ _ _ _ _ us hl => us_4 (fun _ _ _ _ => rfl) us hl⟩,
      f_55 := F55,
      q_55 := ⟨PySem.W.mg_of X G a55, F55.kp, F55.binds (ps := P_55) fun _ _ _ _ _ _ us hl => us_4 (fun _ _ _ _ => rfl) us hl⟩,
      f_56 := F56,
      q_56 := ⟨PySem.W.mg_of X G a56, F56.kp, F56.binds (ps := P_56) fun _ _ _ _ _ _ us hl => us_3 (fun _ _ _ => rfl) us hl⟩,
      f_57 := F57,
      q_57 := ⟨PySem.W.mg_of X G a57, F57.kp, F57.binds (ps := P_57) fun _ _ _ _ _ _ us hl => us_1 (fun _ => rfl) us hl⟩,
      f_58 := F58,
      q_58 := ⟨PySem.W.mg_of X G a58, F58.kp, F58.binds (ps := P_58) fun _ _ _ _ _ _ us hl => us_2 (fun _ _ => rfl) us hl⟩,
      f_59 := F59,
      q_59 := ⟨PySem.W.mg_of X G a59, F59.kp, F59.binds (ps := P_59) fun _ _ _ _ _ _ us hl => us_1 (fun _ => rfl) us hl⟩,
      z_abs := PySem.W.mg_none_of X G z_abs,
      z_all := PySem.W.mg_none_of X G z_all,
      z_bool := PySem.W.mg_none_of X G z_bool,
      z_enumerate := PySem.W.mg_none_of X G z_enumerate,
      z_int := PySem.W.mg_none_of X G z_int,
      z_isinstance := PySem.W.mg_none_of X G z_isinstance,
      z_len := PySem.W.mg_none_of X G z_len,
      z_max := PySem.W.mg_none_of X G z_max,
      z_min := PySem.W.mg_none_of X G z_min,
      z_range := PySem.W.mg_none_of X G z_range,
      z_sorted := PySem.W.mg_none_of X G z_sorted,
      z_sum := PySem.W.mg_none_of X G z_sum,
      z_tuple := PySem.W.mg_none_of X G z_tuple,
      z_zip := PySem.W.mg_none_of X G z_zip,
      t_NUMBERS := ⟨_, PySem.W.mg_of X G qn_NUMBERS, ⟨⟨_, _, _, ql_NUMBERS, ⟨rfl, rfl, rfl⟩, rfl, ⟨_, _, _, rfl, ⟨_, rfl⟩, rfl, ⟨.ref db_NUMBERS_0, rfl, .inr ⟨_, _, _, _, _, rfl, by rfl, rfl, qv_NUMBERS_0, rfl, rfl, rfl, (show 1 ≤ sizeLine by decide), .cons ⟨_, rfl⟩ (.nil)⟩⟩, ⟨_, _, _, rfl, ⟨_, rfl⟩, rfl, ⟨.ref db_NUMBERS_1, rfl, .inr ⟨_, _, _, _, _, rfl, by rfl, rfl, qv_NUMBERS_1, rfl, rfl, rfl, (show 2 ≤ sizeLine by decide), .cons ⟨_, rfl⟩ (.cons ⟨_, rfl⟩ (.nil))⟩⟩, ⟨_, _, _, rfl, ⟨_, rfl⟩, rfl, ⟨.ref db_NUMBERS_2, rfl, .inr ⟨_, _, _, _, _, rfl, by rfl, rfl, qv_NUMBERS_2, rfl, rfl, rfl, (show 3 ≤ sizeLine by decide), .cons ⟨_, rfl⟩ (.cons ⟨_, rfl⟩ (.cons ⟨_, rfl⟩ (.nil)))⟩⟩, ⟨_, _, _, rfl, ⟨_, rfl⟩, rfl, ⟨.ref db_NUMBERS_3, rfl, .inr ⟨_, _, _, _, _, rfl, by rfl, rfl, qv_NUMBERS_3, rfl, rfl, rfl, (show 4 ≤ sizeLine by decide), .cons ⟨_, rfl⟩ (.cons ⟨_, rfl⟩ (.cons ⟨_, rfl⟩ (.cons ⟨_, rfl⟩ (.nil))))⟩⟩, ⟨_, _, _, rfl, ⟨_, rfl⟩, rfl, ⟨.ref db_NUMBERS_4, rfl, .inr ⟨_, _, _, _, _, rfl, by rfl, rfl, qv_NUMBERS_4, rfl, rfl, rfl, (show 5 ≤ sizeLine by decide), .cons ⟨_, rfl⟩ (.cons ⟨_, rfl⟩ (.cons ⟨_, rfl⟩ (.cons ⟨_, rfl⟩ (.cons ⟨_, rfl⟩ (.nil)))))⟩⟩, ⟨_, _, _, rfl, ⟨_, rfl⟩, rfl, ⟨.ref db_NUMBERS_5, rfl, .inr ⟨_, _, _, _, _, rfl, by rfl, rfl, qv_NUMBERS_5, rfl, rfl, rfl, (show 2 ≤ sizeLine by decide), .cons ⟨_, rfl⟩ (.cons ⟨_, rfl⟩ (.nil))⟩⟩, rfl⟩⟩⟩⟩⟩⟩⟩, qs_NUMBERS⟩⟩ }
  refine ⟨PySem.W.fnOf "law" "law" (defArgs (top 59)) (defBody (top 59)) (defScope (top 59)) .none kV59 dc59 pm59 an59 cd59 ct59, fun s v => .of_eq rfl, fun base _ _ => ?_⟩
  exact FnOk.imp (cn_all (P := l.prog) (w := w) (base := base) A 60).o_59 (sp_law fun ns hl => law_spec ns hl)
theorem walk {l : PySem.W.OpenLaw} {q : Program} {loose : List Str} {XP : (Str → Option Value) → Heap → Prop} {YP : World → Heap → Prop} {d : DefRec} {K : Params → PySem.W.Frag} (hn : l.most = some 63) (hdf : d.params.defaults = [])
    (hY : ∀ (w : World) (h : Heap), YP w h → (K w.params).In h)
    (F : ∀ (w : World) (mg : Str → Option Value) (fa : Addr) (h : Heap), (K w.params).In h → h.Ns mainGlobals mg → mg d.name = some (.ref fa) →
      ∃ fd : FuncData, (∀ (s : Shared) (u : Value), BindsTo s fd ⟨[u], []⟩ [("_law_script", u)]) ∧ ∀ base : Heap, (K w.params).In base → base.Ns mainGlobals mg → FnOk l.prog w (K w.params) mg base CX0 60 fa fd ["_law_script"] (spLaw (K w.params))) :
    PySem.W.WalkO q loose XP YP l.row.toRowW d [] (fun f vs => PySem.call f vs) :=
  L2.walk_of (n := 63) (k := 60) (x := "_law_script") (CX := fun _ => CX0) (sp := fun w => spLaw (K w.params)) hn (by decide) hdf ⟨rfl, by decide, by decide, rfl⟩ hY F (fun _ _ a ns hl _ hS => ⟨a, ns, rfl, hS, hl, fun _ => rfl⟩) fun _ _ _ _ _ z => z
end K61
open PySem PySem.W PyProof.Rows
theorem PySem.W.Fast.te15517465010861505861 : True := trivial
theorem PySem.W.Fast.tw8701731718471708244 : True := trivial
theorem PySem.W.Fast.tw10080615226102397632 : True := trivial
theorem PySem.W.Fast.tw5139596847079229707 : True := trivial
theorem PySem.W.Fast.tw6231030958011368113 : True := trivial
theorem PySem.W.Fast.tw15877242968650376877 : True := trivial
theorem PySem.W.Fast.tw13506831003829261520 : True := trivial
theorem PySem.W.Fast.tw5358948706733101495 : True := trivial
theorem PySem.W.Fast.tw5932757959622353130 : True := trivial
theorem PySem.W.Fast.tw8114267886008622462 : True := trivial
theorem PySem.W.Fast.tw9670113192661378945 : True := trivial
theorem PySem.W.Fast.tw13350618786748447492 : True := trivial
theorem PySem.W.Fast.tw13680110332933444147 : True := trivial
theorem PySem.W.Fast.tw16830969764483719710 : True := trivial
theorem PySem.W.Fast.tw18032520256865721345 : True := trivial
theorem PySem.W.Fast.tw4254764960450559025 : True := trivial
theorem PySem.W.Fast.tw11736739371507117400 : True := trivial
theorem PySem.W.Fast.tw15134355594500158369 : True := trivial
theorem PySem.W.Fast.tw14800722631650504453 : True := trivial
theorem PySem.W.Fast.tw8926319123227140898 : True := trivial
theorem PySem.W.Fast.tw6444963146947828539 : True := trivial
theorem PySem.W.Fast.tw4351737571046810021 : True := trivial
theorem PySem.W.Fast.tw9978710947080473859 : True := trivial
theorem PySem.W.Fast.tw14005171139864272297 : True := trivial
theorem PySem.W.Fast.tw18022535652695967031 : True := trivial
theorem PySem.W.Fast.tw5898300550357916105 : True := trivial
theorem PySem.W.Fast.tw10929955696909782403 : True := trivial
theorem PySem.W.Fast.tw7472790241990200995 : True := trivial
theorem PySem.W.Fast.tw14193829495973203401 : True := trivial
theorem PySem.W.Fast.tw1086384781360652104 : True := trivial
theorem PySem.W.Fast.tw14261337765717628658 : True := trivial
theorem PySem.W.Fast.tw16343155524718271192 : True := trivial
theorem PySem.W.Fast.tw2378705425285517013 : True := trivial
theorem PySem.W.Fast.tw8399735700402423934 : True := trivial
theorem PySem.W.Fast.tw11177920316499112365 : True := trivial
theorem PySem.W.Fast.tw9382519055454866536 : True := trivial
theorem PySem.W.Fast.tw7158969618607200947 : True := trivial
theorem PySem.W.Fast.tw17664537459341929205 : True := trivial
theorem PySem.W.Fast.tw10289917938449198578 : True := trivial
theorem PySem.W.Fast.tw16110296034666933382 : True := trivial
theorem PySem.W.Fast.tw17166894977945606871 : True := trivial
theorem PySem.W.Fast.tw5021518194945705271 : True := trivial
theorem PySem.W.Fast.tw7341732922239833145 : True := trivial
theorem PySem.W.Fast.tw9030925088764769476 : True := trivial
theorem PySem.W.Fast.tw17897200927657474798 : True := trivial
theorem PySem.W.Fast.tw11120666166437688402 : True := trivial
theorem PySem.W.Fast.tw11850795227206424516 : True := trivial
theorem PySem.W.Fast.tw12683962480904122036 : True := trivial
theorem PySem.W.Fast.tw14965120490185660617 : True := trivial
theorem PySem.W.Fast.tw1513110248310996904 : True := trivial
theorem PySem.W.Fast.tw11440111590932824476 : True := trivial
theorem PySem.W.Fast.tw16195005054594109249 : True := trivial
theorem PySem.W.Fast.tw16286605020742289645 : True := trivial
theorem PySem.W.Fast.tw7997850347800119850 : True := trivial
theorem PySem.W.Fast.tw16383676219334561424 : True := trivial
theorem PySem.W.Fast.tw14417080839495951520 : True := trivial
theorem PySem.W.Fast.tw18392300494749005541 : True := trivial
theorem PySem.W.Fast.tw2049906076349243777 : True := trivial
theorem PySem.W.Fast.tw12794963708913389363 : True := trivial
theorem PySem.W.Fast.tw10768483705557005239 : True := trivial
theorem PySem.W.Fast.tw5048328278601313220 : True := trivial
theorem PySem.W.Fast.tw2276055862728799697 : True := trivial
theorem PySem.W.Fast.tw8411292632551250818 : True := trivial
theorem PySem.W.Fast.tw16326337075923279481 : True := trivial
theorem PySem.W.Fast.tw10891112714088248744 : True := trivial
theorem PySem.W.Fast.tw14390074708523105549 : True := trivial
theorem PySem.W.Fast.tw16490689969084417617 : True := trivial
theorem PySem.W.Fast.tw11737691927752271268 : True := trivial
theorem PySem.W.Fast.tw4697341022311859391 : True := trivial
theorem PySem.W.Fast.tw9654244357894092463 : True := trivial
theorem PySem.W.Fast.tw16517938395605298802 : True := trivial
theorem PySem.W.Fast.tw6635641245722459611 : True := trivial
theorem PySem.W.Fast.tw8883204777198193437 : True := trivial
theorem PySem.W.Fast.tw17600063562588870153 : True := trivial
theorem PySem.W.Fast.tw6216570901256549702 : True := trivial
theorem PySem.W.Fast.tw7259886124056274814 : True := trivial
theorem PySem.W.Fast.tw8442823499217871694 : True := trivial
theorem PySem.W.Fast.tw5970250129385409897 : True := trivial
theorem PySem.W.Fast.tw8248752920528954937 : True := trivial
theorem PySem.W.Fast.tw15114737604047442253 : True := trivial
set_option maxRecDepth 100000 in
set_option maxHeartbeats 0 in
theorem PySem.Challenge.cw_wholeglance_k61_closer_fit_holds : PySem.Challenge.rw_wholeglance_k61_closer_fit.Holds := by
  w_on; o_law; k_head; (case hw => w_witness2)
  k_fill
  refine K61.walk (l := PySem.Challenge.rw_wholeglance_k61_closer_fit) rfl rfl (fun w h Y => PySem.W.kIn_of Y) ?F
  case F =>
    intro w mg fa h KX G hmg
    refine' K61.all_mk KX G hmg ?a1 ?l1 ?e1 ?k1 ?a2 ?l2 ?e2 ?k2 ?a3 ?l3 ?e3 ?k3 ?a4 ?l4 ?e4 ?k4 ?a5 ?l5 ?e5 ?k5 ?a6 ?l6 ?e6 ?k6 ?a7 ?l7 ?e7 ?k7 ?a10 ?l10 ?e10 ?k10 ?a11 ?l11 ?e11 ?k11 ?a20 ?l20 ?e20 ?k20 ?a21 ?l21 ?e21 ?k21 ?a23 ?l23 ?e23 ?k23 ?a24 ?l24 ?e24 ?k24 ?a25 ?l25 ?e25 ?k25 ?a27 ?l27 ?e27 ?k27 ?a29 ?l29 ?e29 ?k29 ?a32 ?l32 ?e32 ?k32 ?a33 ?l33 ?e33 ?k33 ?a35 ?l35 ?e35 ?k35 ?a36 ?l36 ?e36 ?k36 ?a38 ?l38 ?e38 ?k38 ?a39 ?l39 ?e39 ?k39 ?a40 ?l40 ?e40 ?k40 ?a41 ?l41 ?e41 ?k41 ?a42 ?l42 ?e42 ?k42 ?a44 ?l44 ?e44 ?k44 ?a46 ?l46 ?e46 ?k46 ?a47 ?l47 ?e47 ?k47 ?a48 ?l48 ?e48 ?k48 ?a49 ?l49 ?e49 ?k49 ?a50 ?l50 ?e50 ?k50 ?a51 ?l51 ?e51 ?k51 ?a52 ?l52 ?e52 ?k52 ?a53 ?l53 ?e53 ?k53 ?a54 ?l54 ?e54 ?k54 ?a55 ?l55 ?e55 ?k55 ?a56 ?l56 ?e56 ?k56 ?a57 ?l57 ?e57 ?k57 ?a58 ?l58 ?e58 ?k58 ?a59 ?l59 ?e59 ?k59 ?z_abs ?z_all ?z_bool ?z_enumerate ?z_int ?z_isinstance ?z_len ?z_max ?z_min ?z_range ?z_sorted ?z_sum ?z_tuple ?z_zip ?qn_NUMBERS ?ql_NUMBERS ?qv_NUMBERS_0 ?qv_NUMBERS_1 ?qv_NUMBERS_2 ?qv_NUMBERS_3 ?qv_NUMBERS_4 ?qv_NUMBERS_5 ?qs_NUMBERS
    all_goals try first | k_is | rfl
