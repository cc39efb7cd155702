import PyProof.Rows.All
import Wide.All
import OpenK.AllK
import Wide.FinOn
import Lean
import PyProof.EqAt
import PyProof.EqKinds
import PyProof.TupleCall
import PySem.Challenge.RW_wholeglance_k09_what_are_no_jobs
set_option Elab.async false
set_option linter.all false
set_option maxRecDepth 100000
namespace L2
open PySem PySem.Spec PyProof.Rows
abbrev Key := Sum Int Str
def keyIs : Key → Value → Bool
  | .inl k, v => Value.isInt k v
  | .inr x, v => Value.isStrOf x v
def keyH (w : World) : Key → Int
  | .inl k => hashInt k
  | .inr x => hashStr w x
theorem keyIs_shape : ∀ {k : Key} {v : Value}, keyIs k v = true → (∃ i t, k = Sum.inl i ∧ v = Value.int i t) ∨ (∃ x t, k = Sum.inr x ∧ v = Value.str x t)
  | .inl i, v, h => by
    obtain ⟨t, e⟩ := Value.isInt_shape (k := i) (v := v) h
    exact .inl ⟨i, t, rfl, e⟩
  | .inr x, v, h => by
    obtain ⟨t, e⟩ := Value.isStrOf_shape (x := x) (v := v) h
    exact .inr ⟨x, t, rfl, e⟩
theorem keyIs_str (x : Str) (t : Tok) : keyIs (.inr x) (.str x t) = true := by simp [keyIs, Value.isStrOf]
theorem key_ll (a b : Int) : decide ((Sum.inl a : Key) = Sum.inl b) = (a == b) := by
  by_cases e : a = b
  · subst e; simp
  · have h : ¬ (Sum.inl a : Key) = Sum.inl b := fun q => e (Sum.inl.inj q)
    rw [decide_eq_false h]
    exact (beq_eq_false_iff_ne.mpr e).symm
theorem key_rr (a b : Str) : decide ((Sum.inr a : Key) = Sum.inr b) = decide (a = b) := by
  by_cases e : a = b
  · subst e; simp
  · have h : ¬ (Sum.inr a : Key) = Sum.inr b := fun q => e (Sum.inr.inj q)
    rw [decide_eq_false h, decide_eq_false e]
theorem key_lr (a : Int) (b : Str) : decide ((Sum.inl a : Key) = Sum.inr b) = false := decide_eq_false (fun q => nomatch q)
theorem key_rl (a : Str) (b : Int) : decide ((Sum.inr a : Key) = Sum.inl b) = false := decide_eq_false (fun q => nomatch q)
def mixKind (prog : Program) (w : World) : PySem.KeyKind prog w Key where
  is := keyIs
  hash := keyH w
  inj := fun v a b ha hb => by
    rcases keyIs_shape ha with ⟨i, t, rfl, rfl⟩ | ⟨x, t, rfl, rfl⟩
    · rcases keyIs_shape hb with ⟨j, u, rfl, e⟩ | ⟨y, u, rfl, e⟩
      · injection e with e1 _; rw [e1]
      · exact nomatch e
    · rcases keyIs_shape hb with ⟨j, u, rfl, e⟩ | ⟨y, u, rfl, e⟩
      · exact nomatch e
      · injection e with e1 _; rw [e1]
  byValue := fun k v h => by
    rcases keyIs_shape h with ⟨i, t, rfl, rfl⟩ | ⟨x, t, rfl, rfl⟩ <;> rfl
  pyHash := fun hv h => by
    rcases keyIs_shape hv with ⟨i, t, rfl, rfl⟩ | ⟨x, t, rfl, rfl⟩
    · exact wpAny_pyHash_int h
    · exact wpAny_pyHash_str h
  eqBool := fun hu hv h => by
    rcases keyIs_shape hu with ⟨i, t, rfl, rfl⟩ | ⟨x, t, rfl, rfl⟩
    · rcases keyIs_shape hv with ⟨j, u, rfl, rfl⟩ | ⟨y, u, rfl, rfl⟩
      · rw [key_ll] at h; exact wpAny_eqBool_int h
      · rw [key_lr] at h; exact SeqAt.EqAt.int_str i t y u _ _ _ _ h
    · rcases keyIs_shape hv with ⟨j, u, rfl, rfl⟩ | ⟨y, u, rfl, rfl⟩
      · rw [key_rl] at h; exact SeqAt.EqAt.str_int x t j u _ _ _ _ h
      · rw [key_rr] at h; exact wpAny_eqBool_str h
  «strs» := fun k x t v h => by
    rcases keyIs_shape h with ⟨i, u, rfl, e⟩ | ⟨y, u, rfl, e⟩
    · exact nomatch e
    · injection e with e1 _
      subst e1
      cases v <;> rfl
theorem mixKind_str (prog : Program) (w : World) (x : Str) (t : Tok) : (mixKind prog w).is (.inr x) (.str x t) = true := keyIs_str x t
end L2
namespace L2
open PySem PySem.Spec PyProof.Rows
inductive V where
  | non | bl (b : Bool) | int (i : Int) | str (x : Str) | byt (b : Array UInt8) | flt (b : UInt64) | ref (a : Addr) | ty (n : String)
  deriving DecidableEq
def RelV : V → Value → Prop
  | .non, u => u = Value.none
  | .bl b, u => u = Value.bool b
  | .int i, u => ∃ t, u = Value.int i t
  | .str x, u => ∃ t, u = Value.str x t
  | .byt b, u => ∃ t, u = Value.bytes b t
  | .flt b, u => ∃ t, u = Value.float b t
  | .ref a, u => u = Value.ref a
  | .ty n, u => u = Value.type n
abbrev Vals : List V → List Value → Prop := Paired RelV
theorem Vals.length {xs : List V} {us : List Value} (r : Vals xs us) : xs.length = us.length := Paired.length r
theorem Vals.get : ∀ {xs : List V} {us : List Value} {i : Nat} {x : V}, Vals xs us → xs[i]? = some x → ∃ u, us[i]? = some u ∧ RelV x u
  | _, _, _, _, .nil, e => by simp at e
  | _, _, 0, _, .cons r _, e => by simp at e; subst e; exact ⟨_, rfl, r⟩
  | _, _, i + 1, x, .cons _ t, e => by
    obtain ⟨u, h1, h2⟩ := Vals.get (i := i) (x := x) t (by simpa using e)
    exact ⟨u, by simpa using h1, h2⟩
theorem Vals.set {x : V} {u : Value} (r : RelV x u) : ∀ {xs : List V} {us : List Value} (i : Nat), Vals xs us → Vals (xs.set i x) (us.set i u)
  | _, _, _, .nil => .nil
  | _, _, 0, .cons _ t => .cons r t
  | _, _, i + 1, .cons q t => .cons q (Vals.set r i t)
theorem Vals.append : ∀ {xs ys : List V} {us ws : List Value}, Vals xs us → Vals ys ws → Vals (xs ++ ys) (us ++ ws)
  | _, _, _, _, .nil, s => s
  | _, _, _, _, .cons r t, s => .cons r (Vals.append t s)
theorem Vals.take : ∀ {xs : List V} {us : List Value} (n : Nat), Vals xs us → Vals (xs.take n) (us.take n)
  | _, _, 0, _ => .nil
  | _, _, _ + 1, .nil => .nil
  | _, _, n + 1, .cons r t => .cons r (Vals.take n t)
theorem Vals.drop : ∀ {xs : List V} {us : List Value} (n : Nat), Vals xs us → Vals (xs.drop n) (us.drop n)
  | _, _, 0, r => r
  | _, _, _ + 1, .nil => .nil
  | _, _, n + 1, .cons _ t => Vals.drop n t
def RelO : Option V → Option Value → Prop
  | some v, some u => RelV v u
  | none, none => True
  | _, _ => False
def KV {κ : Type} : List (κ × V) → List (κ × Value) → Prop := Paired fun (p : κ × V) (q : κ × Value) => p.1 = q.1 ∧ RelV p.2 q.2
def kV : Key → V
  | .inl i => .int i
  | .inr x => .str x
inductive HO where
  
  | lst (xs : List V)
  
  | tup (xs : List V)
  
  | dK (kvs : List (Key × V)) | dT (kvs : List (List Key × V))
  
  | set (S : Int → Bool) (n : Nat)
  
  | ins (C dx : Addr) (fs : List (Str × V))
  
  | own (x : Addr)
  
  | xd (fs : List (Str × V))
  
  | met (f x : Addr)
  
  | rng (lo hi : Int)
  
  | frz (o : Obj) (u : HO)
  
  | tbl (ps : Array Value)
  
  | ext (φ : Heap → Prop)
abbrev Hp := Addr → Option HO
def upd (H : Hp) (a : Addr) (o : HO) : Hp := fun b => if b = a then some o else H b
theorem upd_same {H : Hp} {a : Addr} {o : HO} : upd H a o a = some o := by unfold upd; rw [if_pos rfl]
theorem upd_ne {H : Hp} {a b : Addr} {o : HO} (h : b ≠ a) : upd H a o b = H b := by unfold upd; rw [if_neg h]
theorem ne_of {H : Hp} {a b : Addr} {o u : HO} (h : H a = some o) (h' : H b = some u) (d : o ≠ u) : a ≠ b := by
  intro e; subst e; rw [h] at h'; exact d (Option.some.inj h')
theorem ne_of_none {H : Hp} {a b : Addr} {o : HO} (h : H a = some o) (h' : H b = none) : a ≠ b := by
  intro e; subst e; rw [h] at h'; cases h'
section
variable (P : Program) (w : World)
def ObjOk (H : Hp) (h : Heap) (a : Addr) : HO → Prop
  | .lst xs => xs.length ≤ sizeLine ∧ ∃ (its : List Value) (n : Nat), Vals xs its ∧ h.get? a = some { cls := .type "list", data := .seq its.toArray n }
  | .tup xs => xs.length ≤ sizeLine ∧ ∃ its : List Value, Vals xs its ∧ IsTup h a its.toArray
  | .dK kvs => kvs.length ≤ sizeLine ∧ (a == sysModules) = false ∧ ∃ vs, KV kvs vs ∧ h.DictOf (mixKind P w) a vs
  | .dT kvs => kvs.length ≤ sizeLine ∧ (a == sysModules) = false ∧ ∃ xs : List (List Key × Addr × Value),
      Paired (fun (p : List Key × V) (q : List Key × Addr × Value) => p.1 = q.1 ∧ H q.2.1 = some (.tup (p.1.map kV)) ∧ RelV p.2 q.2.2) kvs xs ∧
      ∃ o es ep, h.get? a = some o ∧ o.ExactDict ∧ o.data = .dict es ep ∧ es.toList = xs.map (entryOfKey (tupleKind (mixKind P w))) ∧ (xs.map (·.1)).Nodup
  | .set S n => h.SetOf (intKind P w) a S n
  | .ins C dx fs => H dx = some (.own a) ∧ fs.length ≤ 1000 ∧ dx ≠ a ∧ h.get? a = some (PySem.W.instObj C dx) ∧
      ∃ mA, h.Ns1 dx mA ∧ (∀ f, RelO (fs.lookup f) (mA f)) ∧ PySem.Within mA (fs.map (·.1))
  | .own _ => ∃ o, h.get? a = some o
  | .xd fs => ∃ mA, h.Ns1 a mA ∧ ∀ f, RelO (fs.lookup f) (mA f)
  | .rng lo hi => ∃ t u v, h.get? a = some { cls := .type "range", data := .fields #[.int lo t, .int hi u, .int 1 v] }
  | .frz o u => h.get? a = some o ∧ ObjOk H h a u
  | .tbl ps => h.get? a = some { cls := .none, data := .fields ps }
  | .met f x => h.get? a = some (PySem.W.methodObj (.ref f) (.ref x))
  | .ext φ => φ h ∧ (∃ o, h.get? a = some o) ∧ ∀ h1 h2 : Heap, φ h1 → (∀ o, h1.get? a = some o → h2.get? a = some o) → φ h2
def HOk (H : Hp) (h : Heap) : Prop := ∀ a o, H a = some o → ObjOk P w H h a o
end
section
variable {P : Program} {w : World} {H H' : Hp} {h h' : Heap} {a : Addr} {o : HO}
theorem ObjOk.lt (x : ObjOk P w H h a o) : a < h.objs.size := by
  cases o with
  | lst xs => obtain ⟨_, _, _, _, e⟩ := x; exact Heap.lt_size e
  | tup xs => obtain ⟨_, _, _, p⟩ := x; exact p.lt
  | dK kvs => obtain ⟨_, _, _, _, o, _, _, e, _⟩ := x; exact Heap.lt_size e
  | dT kvs => obtain ⟨_, _, _, _, o, _, _, e, _⟩ := x; exact Heap.lt_size e
  | set S n => obtain ⟨o, _, _, _, e, _⟩ := x; exact Heap.lt_size e
  | ins C dx fs => obtain ⟨_, _, _, e, _⟩ := x; exact Heap.lt_size e
  | own y => obtain ⟨_, e⟩ := x; exact Heap.lt_size e
  | xd fs => obtain ⟨_, ⟨_, _, _, e, _⟩, _⟩ := x; exact Heap.lt_size e
  | rng lo hi => obtain ⟨_, _, _, e⟩ := x; exact Heap.lt_size e
  | frz ob u => obtain ⟨e, _⟩ := x; exact Heap.lt_size e
  | tbl ps => exact Heap.lt_size (show h.get? a = some _ from x)
  | met f y => exact Heap.lt_size (show h.get? a = some _ from x)
  | ext φ => obtain ⟨_, ⟨_, e⟩, _⟩ := x; exact Heap.lt_size e
theorem Paired.mapP {α β : Type} {F G : α → β → Prop} : ∀ {l₁ : List α} {l₂ : List β}, Paired F l₁ l₂ → (∀ a b, F a b → G a b) → Paired G l₁ l₂
  | _, _, .nil, _ => .nil
  | _, _, .cons r t, f => .cons (f _ _ r) (Paired.mapP t f)
theorem ObjOk.stay (x : ObjOk P w H h a o) (k : ∀ b u, (b = a ∨ H b = some (.own a)) → h.get? b = some u → h'.get? b = some u)
    (ho : ∀ b, H b = some (.own a) → H' b = some (.own a)) (ht : ∀ b xs, H b = some (.tup xs) → H' b = some (.tup xs)) : ObjOk P w H' h' a o := by
  induction o with
  | lst xs => obtain ⟨z, its, n, r, e⟩ := x; exact ⟨z, its, n, r, k _ _ (.inl rfl) e⟩
  | tup xs => obtain ⟨z, its, r, ob, e, c⟩ := x; exact ⟨z, its, r, ob, k _ _ (.inl rfl) e, c⟩
  | dK kvs => obtain ⟨z, y, vs, r, ob, es, ep, e, c⟩ := x; exact ⟨z, y, vs, r, ob, es, ep, k _ _ (.inl rfl) e, c⟩
  | dT kvs =>
    obtain ⟨z, y, xs, r, ob, es, ep, e, c⟩ := x
    exact ⟨z, y, xs, Paired.mapP r fun p q z => ⟨z.1, ht _ _ z.2.1, z.2.2⟩, ob, es, ep, k _ _ (.inl rfl) e, c⟩
  | set S n => obtain ⟨ob, es, ep, t, e, c⟩ := x; exact ⟨ob, es, ep, t, k _ _ (.inl rfl) e, c⟩
  | ins C dx fs =>
    obtain ⟨d, z, ne, e, mA, ⟨od, es, ep, e2, c⟩, r⟩ := x
    exact ⟨ho _ d, z, ne, k _ _ (.inl rfl) e, mA, ⟨od, es, ep, k _ _ (.inr d) e2, c⟩, r⟩
  | own y => obtain ⟨ob, e⟩ := x; exact ⟨ob, k _ _ (.inl rfl) e⟩
  | xd fs => obtain ⟨mA, ⟨od, es, ep, e, c⟩, r⟩ := x; exact ⟨mA, ⟨od, es, ep, k _ _ (.inl rfl) e, c⟩, r⟩
  | rng lo hi => obtain ⟨t, u, v, e⟩ := x; exact ⟨t, u, v, k _ _ (.inl rfl) e⟩
  | frz ob u ih => obtain ⟨e, q⟩ := x; exact ⟨k _ _ (.inl rfl) e, ih q⟩
  | tbl ps =>
    have e : h.get? a = some { cls := .none, data := .fields ps } := x
    show h'.get? a = some { cls := .none, data := .fields ps }
    exact k a _ (.inl rfl) e
  | met f y =>
    have e : h.get? a = some (PySem.W.methodObj (.ref f) (.ref y)) := x
    show h'.get? a = some (PySem.W.methodObj (.ref f) (.ref y))
    exact k a _ (.inl rfl) e
  | ext φ => obtain ⟨p, ⟨o, e⟩, st⟩ := x; exact ⟨st _ _ p fun o q => k _ _ (.inl rfl) q, ⟨o, k _ _ (.inl rfl) e⟩, st⟩
theorem HOk.lt (x : HOk P w H h) (e : H a = some o) : a < h.objs.size := (x a o e).lt
theorem HOk.fresh (x : HOk P w H h) (e : h.objs.size ≤ a) : H a = none := by
  cases q : H a with
  | none => rfl
  | some u => exact absurd (Nat.lt_of_lt_of_le (x.lt q) e) (Nat.lt_irrefl _)
theorem HOk.kept (x : HOk P w H h) (k : ∀ b u, h.get? b = some u → h'.get? b = some u) : HOk P w H h' := fun a o e =>
  (x a o e).stay (fun b u _ q => k b u q) (fun _ q => q) fun _ _ q => q
theorem HOk.laid (x : HOk P w H h) (k : ∀ b u, h.get? b = some u → h'.get? b = some u) (hp : h.objs.size ≤ a) (new : ObjOk P w (upd H a o) h' a o) : HOk P w (upd H a o) h' := fun b u e => by
  have hn := x.fresh hp
  by_cases hb : b = a
  · subst hb; rw [upd_same] at e; cases e; exact new
  · rw [upd_ne hb] at e
    exact (x b u e).stay (fun c v _ q => k c v q) (fun c q => by rw [upd_ne (ne_of_none q hn)]; exact q) fun c xs q => by rw [upd_ne (ne_of_none q hn)]; exact q
end
def Rd (H : Hp) (a : Addr) (u : HO) : Prop := H a = some u ∨ ∃ o, H a = some (.frz o u)
theorem Rd.ok {P : Program} {w : World} {H : Hp} {h : Heap} {a : Addr} {u : HO} (r : Rd H a u) (x : HOk P w H h) : ObjOk P w H h a u := by
  rcases r with r | ⟨o, r⟩
  · exact x a u r
  · obtain ⟨_, q⟩ := x a _ r
    exact q
def Mut : Option HO → Prop
  | some (.lst _) => True
  | some (.dK _) => True
  | some (.dT _) => True
  | some (.set _ _) => True
  | some (.ins _ _ _) => True
  | some (.ext _) => True
  | _ => False
section
variable {P : Program} {w : World} {H : Hp} {h h' : Heap} {x e : Addr} {o' : HO}
theorem HOk.write (ok : HOk P w H h) (mu : Mut (H x)) (he : e = x ∨ H e = some (.own x)) (k : ∀ b u, b ≠ e → h.get? b = some u → h'.get? b = some u) (heo : ∃ u, h'.get? e = some u)
    (new : ObjOk P w (upd H x o') h' x o') : HOk P w (upd H x o') h' := fun b u q => by
  have nown : ∀ c y, H c = some (.own y) → c ≠ x := fun c y r z => by subst z; rw [r] at mu; exact mu
  have ntup : ∀ c xs, H c = some (.tup xs) → c ≠ x := fun c xs r z => by subst z; rw [r] at mu; exact mu
  by_cases hb : b = x
  · subst hb; rw [upd_same] at q; cases q; exact new
  · rw [upd_ne hb] at q
    by_cases hbe : b = e
    · have q' : H b = some (.own x) := by
        rcases he with z | z
        · exact absurd (hbe.trans z) hb
        · rw [hbe]; exact z
      rw [q] at q'; cases q'
      obtain ⟨v, hv⟩ := heo
      exact ⟨v, by rw [hbe]; exact hv⟩
    · refine (ok b u q).stay (fun c v hc r => k c v ?_ r) (fun c r => by rw [upd_ne (nown c b r)]; exact r) fun c xs r => by rw [upd_ne (ntup c xs r)]; exact r
      rcases hc with rfl | hc
      · exact hbe
      · rintro rfl
        rcases he with z | z
        · exact nown c b hc z
        · rw [hc] at z; cases z; exact hb rfl
end
structure Un (fs ex : List Addr) (H H' : Hp) (h h' : Heap) : Prop where
  keep : ∀ b o, h.get? b = some o → H b = none → b ∉ fs → b ∉ ex → h'.get? b = some o
  slot : ∀ b o, h.get? b = some o → H b = none → b ∈ fs → b ∉ ex → ∃ sl, h'.get? b = some { o with slots := sl }
  free : ∀ b o, h.get? b = some o → H b = none → b ∉ ex → H' b = none
  there : ∀ b o, h.get? b = some o → b ∉ ex → ∃ o', h'.get? b = some o'
  tups : ∀ b xs, H b = some (.tup xs) → H' b = some (.tup xs)
  frzs : ∀ b o u, H b = some (.frz o u) → H' b = some (.frz o u)
  tbls : ∀ b ps, H b = some (.tbl ps) → ∃ more, H' b = some (.tbl (ps ++ more))
section
variable {fs fs' ex ex' : List Addr} {H H1 H2 : Hp} {h h1 h2 h' : Heap} {a x e : Addr} {o : HO}
theorem Un.any (u : Un fs ex H H1 h h1) {b : Addr} {ob : Obj} (q : h.get? b = some ob) (n : H b = none) (hx : b ∉ ex) : ∃ sl, h1.get? b = some { ob with slots := sl } := by
  by_cases hb : b ∈ fs
  · exact u.slot b ob q n hb hx
  · exact ⟨ob.slots, u.keep b ob q n hb hx⟩
theorem Un.kept (k : ∀ b u, h.get? b = some u → h'.get? b = some u) : Un fs ex H H h h' :=
  ⟨fun b ob q _ _ _ => k b ob q, fun b ob q _ _ _ => ⟨ob.slots, k b ob q⟩, fun _ _ _ n _ => n, fun b ob q _ => ⟨ob, k b ob q⟩, fun _ _ q => q, fun _ _ _ q => q, fun _ ps q => ⟨#[], by rw [q]; simp⟩⟩
theorem Un.refl : Un fs ex H H h h := Un.kept fun _ _ q => q
theorem Un.laid (k : ∀ b u, h.get? b = some u → h'.get? b = some u) (hp : h.objs.size ≤ a) (hn : H a = none) : Un fs ex H (upd H a o) h h' where
  keep := fun b u q _ _ _ => k b u q
  slot := fun b u q _ _ _ => ⟨u.slots, k b u q⟩
  free := fun b u q n _ => by rw [upd_ne (Nat.ne_of_lt (Nat.lt_of_lt_of_le (Heap.lt_size q) hp))]; exact n
  there := fun b u q _ => ⟨u, k b u q⟩
  tups := fun b xs q => by rw [upd_ne (ne_of_none q hn)]; exact q
  frzs := fun b u xs q => by rw [upd_ne (ne_of_none q hn)]; exact q
  tbls := fun b ps q => ⟨#[], by rw [upd_ne (ne_of_none q hn), q]; simp⟩
theorem Un.write (mu : Mut (H x)) (he : e = x ∨ H e = some (.own x)) (k : ∀ b u, b ≠ e → h.get? b = some u → h'.get? b = some u) (heo : ∃ u, h'.get? e = some u) : Un fs ex H (upd H x o) h h' := by
  have hx : ∀ b, H b = none → b ≠ x := fun b n z => by subst z; rw [n] at mu; exact mu
  have hb : ∀ b, H b = none → b ≠ e := fun b n z => by
    subst z
    rcases he with r | r
    · exact hx b n r
    · rw [n] at r; cases r
  have hm : ∀ b u, H b = some u → ¬ Mut (some u) → b ≠ x := fun b u q nm z => by subst z; rw [q] at mu; exact nm mu
  refine ⟨fun b u q n _ _ => k b u (hb b n) q, fun b u q n _ _ => ⟨u.slots, k b u (hb b n) q⟩, fun b u q n _ => by rw [upd_ne (hx b n)]; exact n, fun b u q _ => ?_,
    fun b xs q => by rw [upd_ne (hm b _ q fun z => z)]; exact q, fun b u xs q => by rw [upd_ne (hm b _ q fun z => z)]; exact q, fun b ps q => ⟨#[], by rw [upd_ne (hm b _ q fun z => z), q]; simp⟩⟩
  by_cases hbe : b = e
  · subst hbe; exact heo
  · exact ⟨u, k b u hbe q⟩
end
def trk (h : Heap) (H : Hp) : List Addr := (List.range h.objs.size).filter fun a => (H a).isSome
def hidT (h : Heap) (H : Hp) : Heap := PySem.W.hideAll h (trk h H)
theorem hidT_size (h : Heap) (H : Hp) : (hidT h H).objs.size = h.objs.size := PySem.W.hideAll_size _ _
theorem hidT_get {h : Heap} {H : Hp} {b : Addr} {o : Obj} (e : h.get? b = some o) (n : H b = none) : (hidT h H).get? b = some o :=
  PySem.W.hideAll_get _ e fun hm => by
    have q : (H b).isSome = true := (List.mem_filter.mp hm).2
    rw [n] at q; simp at q
theorem of_hidT {h : Heap} {H : Hp} {b : Addr} {o : Obj} (e : (hidT h H).get? b = some o) : h.get? b = some o ∧ H b = none := by
  have e' : h.get? b = some o := PySem.W.of_hideAll (trk h H) e
  refine ⟨e', ?_⟩
  cases q : H b with
  | none => rfl
  | some x =>
    have hm : b ∈ trk h H := List.mem_filter.mpr ⟨List.mem_range.mpr (Heap.lt_size e'), by simp [q]⟩
    have z : (hidT h H).get? b = none := PySem.W.hideAll_none (trk h H) hm
    rw [z] at e; cases e
def allNews (g h : Heap) (L : Addr) : List (Addr × Obj) := (List.range h.objs.size).filterMap fun a => if a = L ∨ (g.get? a).isSome = true then none else (h.get? a).map fun o => (a, o)
def rest (g h : Heap) (L d : Addr) : List (Addr × Obj) := (allNews g h L).filter fun p => decide (p.1 ≠ d)
end L2
namespace L2
open PySem PySem.Spec PyProof.Rows
structure Mod (K : PySem.W.Frag) (mg : Str → Option Value) (base : Heap) : Prop where
  kin : K.In base
  glob : base.Ns mainGlobals mg
  blt : ∃ mb, base.Ns builtinsNs mb ∧ ∀ x : Str, x ≠ "__name__" → mb x = bootBuiltins x
  nolimit : base.NoLimit
structure Cx where
  prog : Program
  w : World
  K : PySem.W.Frag
  mg : Str → Option Value
  base : Heap
  A : Around
  N : List Str
  s₀ : Shared
  H₀ : Hp
  env : Env
  outer : List Env
  stack : List Env
  ex : List Addr
  fn : Str → Bool
  calm : Bool
  pn : List (Addr × Obj)
  xe : Value → Shared → Prop
def frs (l : List Env) : List Addr := l.filterMap (·.frame)
abbrev Cx.fs (X : Cx) : List Addr := frs X.outer
def Vis (sc : Scope) (x : Str) : Prop := sc.names.lookup x = some .local ∨ sc.names.lookup x = some .cell ∨ sc.names.lookup x = some .free
def Loc (sc : Scope) (x : Str) : Prop := sc.names.lookup x = some .local ∨ sc.names.lookup x = some .cell
def Look (env : Env) (h : Heap) (m : Str → Option Value) (x : Str) (u : Value) : Prop :=
  (env.kindOf x = some .local ∧ m x = some u) ∨ ((env.kindOf x = some .cell ∨ env.kindOf x = some .free) ∧ ∃ c, env.cells.lookup x = some c ∧ h.IsCell c (some u))
structure Cx.Ok (X : Cx) : Prop where
  mod : Mod X.K X.mg X.base
  kind : X.env.scope.kind = .function
  glob : X.env.globals = mainGlobals
  blt : X.env.builtins = builtinsNs
  above : X.s₀.heap.objs.size ≤ X.env.locals
  inj : ∀ x y c, X.env.cells.lookup x = some c → X.env.cells.lookup y = some c → x = y
  has : ∀ x, (X.env.kindOf x = some .cell ∨ X.env.kindOf x = some .free) → ∃ c, X.env.cells.lookup x = some c
  cab : ∀ x c, X.fn x = true → X.env.cells.lookup x = some c → X.s₀.heap.objs.size ≤ c
  hd : X.calm = true → X.A.handled = none
  frames : X.A.frames = some X.stack
  stk : X.stack = X.outer ∨ (X.stack = X.env :: X.outer ∧ X.env.frame = some X.env.locals)
  exf : ∀ b ∈ X.ex, b ≠ X.env.locals ∧ ∀ x c, X.env.cells.lookup x = some c → c ≠ b
  bs : ∀ b o, X.base.get? b = some o → X.s₀.heap.get? b = some o ∧ X.H₀ b = none
  bsz : X.base.objs.size ≤ X.s₀.heap.objs.size
  noex : ∀ b o, X.base.get? b = some o → b ∉ X.ex
  exfs : ∀ b ∈ X.ex, b ∉ X.fs
  funs : X.s₀.heap.FunFrames X.base X.outer
  frf : ∀ b ∈ X.fs, X.H₀ b = none
structure Inv (X : Cx) (pins : List (Addr × Obj)) (σ : List (Option V)) (H : Hp) (s : Shared) : Prop where
  ok : X.Ok
  os : s.os = X.s₀.os
  bare : AllBare s.gens
  base : Un X.fs X.ex X.H₀ H X.s₀.heap s.heap
  loc : ∃ m, s.heap.Ns X.env.locals m ∧ ∀ (i : Nat) (x : Str) (v : V), X.N[i]? = some x → σ[i]? = some (some v) → Vis X.env.scope x → ∃ u, RelV v u ∧ Look X.env s.heap m x u
  cell : ∀ x c, X.env.cells.lookup x = some c → ∃ v, s.heap.IsCell c v
  free : H X.env.locals = none
  freeC : ∀ x c, X.env.cells.lookup x = some c → H c = none
  pin : ∀ p ∈ X.pn ++ pins, s.heap.get? p.1 = some p.2 ∧ H p.1 = none ∧ p.1 ≠ X.env.locals ∧ p.1 ∉ X.fs ∧ ∀ v, p.2.data ≠ .cell v
  hok : HOk X.prog X.w H s.heap
  len : σ.length = X.N.length
section
variable {X : Cx} {pins : List (Addr × Obj)} {σ : List (Option V)} {H H' : Hp} {s : Shared} {h' : Heap}
theorem Cx.Ok.nofr (ok : X.Ok) {b : Addr} {o : Obj} (e : X.base.get? b = some o) : b ∉ X.fs := fun hb => by
  have := (ok.funs.mem hb).1
  rw [e] at this; cases this
theorem Inv.bs (I : Inv X pins σ H s) : ∀ b o, X.base.get? b = some o → s.heap.get? b = some o ∧ H b = none := fun b o e =>
  ⟨I.base.keep b o (I.ok.bs b o e).1 (I.ok.bs b o e).2 (I.ok.nofr e) (I.ok.noex b o e), I.base.free b o (I.ok.bs b o e).1 (I.ok.bs b o e).2 (I.ok.noex b o e)⟩
theorem Inv.bk (I : Inv X pins σ H s) : ∀ b o, X.base.get? b = some o → s.heap.get? b = some o := fun b o e => (I.bs b o e).1
theorem Inv.mod (I : Inv X pins σ H s) : Mod X.K X.mg X.base := I.ok.mod
theorem Inv.kIn (I : Inv X pins σ H s) : X.K.In s.heap := I.ok.mod.kin.keeps I.bk
theorem Inv.lt (I : Inv X pins σ H s) : X.env.locals < s.heap.objs.size := let ⟨_, hn, _⟩ := I.loc; hn.lt
theorem Inv.sz (I : Inv X pins σ H s) : X.s₀.heap.objs.size ≤ s.heap.objs.size := Nat.le_trans I.ok.above (Nat.le_of_lt I.lt)
theorem Inv.nofs (I : Inv X pins σ H s) {a : Addr} (h : s.heap.objs.size ≤ a) : a ∉ X.fs := fun hb => by
  obtain ⟨_, o, ho, _⟩ := I.ok.funs.mem hb
  exact absurd (Nat.lt_of_lt_of_le (Heap.lt_size ho) (Nat.le_trans I.sz h)) (Nat.lt_irrefl _)
theorem Inv.cne (I : Inv X pins σ H s) : ∀ x c, X.env.cells.lookup x = some c → c ≠ X.env.locals := fun x c e z => by
  obtain ⟨v, o, ho, hd⟩ := I.cell x c e
  obtain ⟨m, ⟨o', es, ep, ho', hd', _⟩, _⟩ := I.loc
  rw [z, ho'] at ho; cases ho; rw [hd'] at hd; cases hd
theorem Inv.funs (I : Inv X pins σ H s) : s.heap.FunFrames X.base X.outer := by
  have all : ∀ (l : List Env), (∀ b ∈ frs l, b ∈ X.fs) → X.s₀.heap.FunFrames X.base l → s.heap.FunFrames X.base l := by
    intro l
    induction l with
    | nil => intro _ _; trivial
    | cons env r ih =>
      intro hs hl
      obtain ⟨hk, ⟨L, o, hf, hn, ho, hd⟩, hr⟩ := hl
      have hL : L ∈ X.fs := hs L (by unfold frs; rw [List.filterMap_cons, hf]; exact List.mem_cons_self)
      obtain ⟨sl, e⟩ := I.base.slot L o ho (I.ok.frf L hL) hL fun z => I.ok.exfs L z hL
      exact ⟨hk, ⟨L, _, hf, hn, e, hd⟩, ih (fun b hb => hs b (by unfold frs; rw [List.filterMap_cons, hf]; exact List.mem_cons_of_mem _ hb)) hr⟩
  exact all X.outer (fun _ hb => hb) I.ok.funs
theorem Inv.stack (I : Inv X pins σ H s) : s.heap.FunFrames X.base X.stack := by
  rcases I.ok.stk with e | ⟨e, hf⟩
  · rw [e]; exact I.funs
  · rw [e]
    obtain ⟨m, hn, _⟩ := I.loc
    refine .cons (by rw [I.ok.kind]; decide) hf hn ?_ I.funs
    exact Heap.get?_none_of_le (Nat.le_trans I.ok.bsz I.ok.above)
theorem Inv.stkSub (I : Inv X pins σ H s) : ∀ b ∈ frs X.stack, b ∈ X.env.locals :: X.fs := fun b hb => by
  rcases I.ok.stk with e | ⟨e, hf⟩
  · rw [e] at hb; exact List.mem_cons_of_mem _ hb
  · rw [e] at hb
    unfold frs at hb
    rw [List.filterMap_cons, hf] at hb
    exact hb
theorem Inv.stkFree (I : Inv X pins σ H s) : ∀ b ∈ frs X.stack, H b = none := fun b hb => by
  rcases List.mem_cons.mp (I.stkSub b hb) with e | hb
  · rw [e]; exact I.free
  · obtain ⟨_, o, ho, _⟩ := I.ok.funs.mem hb
    exact I.base.free b o ho (I.ok.frf b hb) fun z => I.ok.exfs b z hb
theorem Inv.step {g' : Array GenState} {t' : Nat} {d' : Drawn} {ch : List Addr} (I : Inv X pins σ H s)
    (hch : ∀ b ∈ ch, (b ∈ X.ex ∨ X.s₀.heap.objs.size ≤ b) ∧ b ≠ X.env.locals ∧ (∀ x c, X.env.cells.lookup x = some c → c ≠ b) ∧ ∀ p ∈ X.pn ++ pins, p.1 ≠ b)
    (keep : ∀ b o, b ≠ X.env.locals → b ∉ X.fs → b ∉ ch → s.heap.get? b = some o → H b = none → h'.get? b = some o)
    (slot : ∀ b o, b ≠ X.env.locals → b ∈ X.fs → b ∉ ch → s.heap.get? b = some o → H b = none → ∃ sl, h'.get? b = some { o with slots := sl }) (free : ∀ b o, b ∉ ch → s.heap.get? b = some o → H b = none → H' b = none)
    (there : ∀ b o, b ∉ ch → s.heap.get? b = some o → ∃ o', h'.get? b = some o')
    (tups : ∀ b xs, H b = some (.tup xs) → H' b = some (.tup xs)) (frzs : ∀ b o u, H b = some (.frz o u) → H' b = some (.frz o u)) (tbls : ∀ b ps, H b = some (.tbl ps) → ∃ more, H' b = some (.tbl (ps ++ more)))
    (ns : ∀ m, s.heap.Ns X.env.locals m → h'.Ns X.env.locals m) (hok : HOk X.prog X.w H' h') (hg : AllBare g') :
    Inv X pins σ H' { s with heap := h', gens := g', drawn := d', toks := t' } := by
  have neL : ∀ b o, X.s₀.heap.get? b = some o → b ≠ X.env.locals := fun b o e => Nat.ne_of_lt (Nat.lt_of_lt_of_le (Heap.lt_size e) I.ok.above)
  have neC : ∀ b o, X.s₀.heap.get? b = some o → b ∉ X.ex → b ∉ ch := fun b o e hx hb => by
    rcases (hch b hb).1 with z | z
    · exact hx z
    · exact absurd (Nat.lt_of_lt_of_le (Heap.lt_size e) z) (Nat.lt_irrefl _)
  have cellK : ∀ x c, X.env.cells.lookup x = some c → ∀ v, s.heap.IsCell c v → h'.IsCell c v := fun x c e v ⟨o, ho, hd⟩ => by
    have nch : c ∉ ch := fun z => (hch c z).2.2.1 x c e rfl
    by_cases hc : c ∈ X.fs
    · obtain ⟨sl, q⟩ := slot c o (I.cne x c e) hc nch ho (I.freeC x c e)
      exact ⟨_, q, hd⟩
    · exact ⟨o, keep c o (I.cne x c e) hc nch ho (I.freeC x c e), hd⟩
  refine ⟨I.ok, I.os, hg, ⟨fun b o e n hb hx => ?_, fun b o e n hb hx => ?_, fun b o e n hx => ?_, fun b o e hx => ?_, fun b xs e => tups b xs (I.base.tups b xs e), fun b o xs e => frzs b o xs (I.base.frzs b o xs e), fun b ps e => ?_⟩, ?_, fun x c e => ?_, ?_, fun x c e => ?_, fun p hp => ?_, hok, I.len⟩
  · exact keep b o (neL b o e) hb (neC b o e hx) (I.base.keep b o e n hb hx) (I.base.free b o e n hx)
  · obtain ⟨sl, e1⟩ := I.base.slot b o e n hb hx
    obtain ⟨sl', e2⟩ := slot b _ (neL b o e) hb (neC b o e hx) e1 (I.base.free b o e n hx)
    exact ⟨sl', e2⟩
  · obtain ⟨o', e1⟩ := I.base.there b o e hx
    exact free b o' (neC b o e hx) e1 (I.base.free b o e n hx)
  · obtain ⟨o', e1⟩ := I.base.there b o e hx
    exact there b o' (neC b o e hx) e1
  · obtain ⟨m1, e1⟩ := I.base.tbls b ps e
    obtain ⟨m2, e2⟩ := tbls b _ e1
    exact ⟨m1 ++ m2, by rw [e2, Array.append_assoc]⟩
  · obtain ⟨m, hn, hl⟩ := I.loc
    refine ⟨m, ns m hn, fun i x v e1 e2 e3 => ?_⟩
    obtain ⟨u, r, l⟩ := hl i x v e1 e2 e3
    refine ⟨u, r, ?_⟩
    rcases l with l | ⟨k, c, e, z⟩
    · exact .inl l
    · exact .inr ⟨k, c, e, cellK x c e _ z⟩
  · obtain ⟨v, z⟩ := I.cell x c e
    exact ⟨v, cellK x c e v z⟩
  · obtain ⟨m, ⟨o, _, _, ho, _⟩, _⟩ := I.loc
    exact free _ o (fun z => (hch _ z).2.1 rfl) ho I.free
  · obtain ⟨v, o, ho, hd⟩ := I.cell x c e
    exact free c o (fun z => (hch c z).2.2.1 x c e rfl) ho (I.freeC x c e)
  · obtain ⟨e, n, ne, nf, d⟩ := I.pin p hp
    have nch : p.1 ∉ ch := fun z => (hch p.1 z).2.2.2 p hp rfl
    exact ⟨keep p.1 p.2 ne nf nch e n, free p.1 p.2 nch e n, ne, nf, d⟩
theorem Inv.un {t' : Nat} (I : Inv X pins σ H s) (u : Un X.fs [] H H' s.heap h') (hok : HOk X.prog X.w H' h') : Inv X pins σ H' { s with heap := h', toks := t' } := by
  obtain ⟨m, ⟨o, es, ep, ho, r⟩, _⟩ := id I.loc
  obtain ⟨sl, hL⟩ := u.any ho I.free (by simp)
  exact I.step (g' := s.gens) (d' := s.drawn) (ch := []) (fun _ z => nomatch z) (fun b o _ hb _ e n => u.keep b o e n hb (by simp)) (fun b o _ hb _ e n => u.slot b o e n hb (by simp)) (fun b o _ e n => u.free b o e n (by simp)) (fun b o _ e => u.there b o e (by simp)) u.tups u.frzs u.tbls (fun m' hm => by
    obtain ⟨o', es', ep', ho', r'⟩ := hm
    rw [ho] at ho'; cases ho'
    exact ⟨_, es', ep', hL, r'⟩) hok I.bare
theorem Inv.call {g' : Array GenState} {t' : Nat} {d' : Drawn} {ch : List Addr} (I : Inv X pins σ H s) (u : Un (frs X.stack) ch H H' s.heap h') (hok : HOk X.prog X.w H' h') (hg : AllBare g')
    (hch : ∀ b ∈ ch, (b ∈ X.ex ∨ X.s₀.heap.objs.size ≤ b) ∧ b ≠ X.env.locals ∧ (∀ x c, X.env.cells.lookup x = some c → c ≠ b) ∧ ∀ p ∈ X.pn ++ pins, p.1 ≠ b) :
    Inv X pins σ H' { s with heap := h', gens := g', drawn := d', toks := t' } := by
  obtain ⟨m, ⟨o, es, ep, ho, r⟩, _⟩ := id I.loc
  obtain ⟨sl, hL⟩ := u.any ho I.free fun z => (hch _ z).2.1 rfl
  exact I.step (ch := ch) hch (fun b o hL hb hc e n => u.keep b o e n (fun z => (List.mem_cons.mp (I.stkSub b z)).elim hL hb) hc) (fun b o _ _ hc e n => u.any e n hc) (fun b o hc e n => u.free b o e n hc) (fun b o hc e => u.there b o e hc) u.tups u.frzs u.tbls (fun m' hm => by
    obtain ⟨o', es', ep', ho', r'⟩ := hm
    rw [ho] at ho'; cases ho'
    exact ⟨_, es', ep', hL, r'⟩) hok hg
theorem Inv.turned {t' : Nat} {it : Addr} (I : Inv X pins σ H s) (k : ∀ b o, b ≠ it → s.heap.get? b = some o → h'.get? b = some o) (hn : H it = none) (hL : it ≠ X.env.locals)
    (h1 : it ∈ X.ex ∨ X.s₀.heap.objs.size ≤ it) (h2 : ∀ x c, X.env.cells.lookup x = some c → c ≠ it) (h3 : ∀ p ∈ X.pn ++ pins, p.1 ≠ it) : Inv X pins σ H { s with heap := h', toks := t' } := by
  have nit : ∀ b u, H b = some u → b ≠ it := fun b u e z => by rw [z, hn] at e; cases e
  refine I.step (g' := s.gens) (d' := s.drawn) (ch := [it]) (fun b hb => ?_) (fun b o _ _ hc e _ => k b o (fun z => hc (by simp [z])) e) (fun b o _ _ hc e _ => ⟨o.slots, k b o (fun z => hc (by simp [z])) e⟩) (fun _ _ _ _ n => n)
    (fun b o hc e => ⟨o, k b o (fun z => hc (by simp [z])) e⟩) (fun _ _ e => e) (fun _ _ _ e => e) (fun b ps e => ⟨#[], by rw [e]; simp⟩) (fun m hm => ?_) (fun b u e => ?_) I.bare
  · have e : b = it := by simpa using hb
    subst e
    exact ⟨h1, hL, h2, h3⟩
  · obtain ⟨o, es, ep, ho, r⟩ := hm
    exact ⟨o, es, ep, k _ o (Ne.symm hL) ho, r⟩
  · refine (I.hok b u e).stay (fun c v hc q => k c v ?_ q) (fun _ q => q) fun _ _ q => q
    rcases hc with z | z
    · rw [z]; exact nit b u e
    · exact nit c _ z
theorem Inv.tok (I : Inv X pins σ H s) (t : Nat) : Inv X pins σ H { s with toks := t } := I.un (h' := s.heap) (t' := t) Un.refl I.hok
theorem Inv.kept {t' : Nat} (I : Inv X pins σ H s) (k : ∀ b u, s.heap.get? b = some u → h'.get? b = some u) : Inv X pins σ H { s with heap := h', toks := t' } := I.un (Un.kept k) (I.hok.kept k)
theorem Inv.laid {a : Addr} {o : HO} {t' : Nat} (I : Inv X pins σ H s) (k : ∀ b u, s.heap.get? b = some u → h'.get? b = some u) (hp : s.heap.objs.size ≤ a) (new : ObjOk X.prog X.w (upd H a o) h' a o) :
    Inv X pins σ (upd H a o) { s with heap := h', toks := t' } := I.un (Un.laid k hp (I.hok.fresh hp)) (I.hok.laid k hp new)
theorem Inv.write {x e : Addr} {o : HO} {t' : Nat} (I : Inv X pins σ H s) (mu : Mut (H x)) (he : e = x ∨ H e = some (.own x)) (k : ∀ b u, b ≠ e → s.heap.get? b = some u → h'.get? b = some u) (heo : ∃ u, h'.get? e = some u)
    (new : ObjOk X.prog X.w (upd H x o) h' x o) : Inv X pins σ (upd H x o) { s with heap := h', toks := t' } := I.un (Un.write mu he k heo) (I.hok.write mu he k heo new)
theorem Inv.pins_of {pins' : List (Addr × Obj)} (I : Inv X pins σ H s) (h : ∀ p ∈ pins', s.heap.get? p.1 = some p.2 ∧ H p.1 = none ∧ p.1 ≠ X.env.locals ∧ p.1 ∉ X.fs ∧ ∀ v, p.2.data ≠ .cell v) : Inv X pins' σ H s :=
  ⟨I.ok, I.os, I.bare, I.base, I.loc, I.cell, I.free, I.freeC, fun p hp => (List.mem_append.mp hp).elim (fun z => I.pin p (List.mem_append_left _ z)) (h p), I.hok, I.len⟩
theorem nodup_ix {N : List Str} (hN : N.Nodup) {i j : Nat} {x : Str} (a : N[i]? = some x) (b : N[j]? = some x) : i = j := by
  obtain ⟨h1, e1⟩ := List.getElem?_eq_some_iff.mp a
  obtain ⟨h2, e2⟩ := List.getElem?_eq_some_iff.mp b
  exact (List.getElem_inj hN).mp (e1.trans e2.symm)
theorem store_ok2 {M : Model} {A : Around} {E : Value → Shared → Prop} {i : Nat} {x : Str} {v : V} {u : Value} {Q : Unit → Shared → Prop} (I : Inv X pins σ H s) (hN : X.N.Nodup) (hi : X.N[i]? = some x) (hx : Loc X.env.scope x) (r : RelV v u)
    (h : ∀ s', Inv X pins (σ.set i (some v)) H s' → (∃ a, Heap.SameBut a s.heap s'.heap ∧ (a = X.env.locals ∨ X.env.cells.lookup x = some a)) → Q () s') (hf : X.fn x = true ∨ X.env.scope.names.lookup x = some .local := by first | exact .inl rfl | exact .inr rfl | assumption) : wpAny M A (storeName X.env x u) Q E s := by
  obtain ⟨m, hn, hl⟩ := id I.loc
  have hcls : (X.env.scope.kind == .class || (X.env.scope.kind == .module && X.env.locals != X.env.globals)) = false := by rw [I.ok.kind]; rfl
  have hiσ : i < σ.length := by rw [I.len]; exact (List.getElem?_eq_some_iff.mp hi).1
  have cne := I.cne
  have tracked : ∀ {a : Addr} {h' : Heap}, (∃ o, s.heap.get? a = some o ∧ H a = none) → Heap.SameBut a s.heap h' → HOk X.prog X.w H h' := fun {a h'} ha hs b ob e => by
    obtain ⟨_, _, hfree⟩ := ha
    refine (I.hok b ob e).stay (fun c w' hc q => (hs.2 c ?_).trans q) (fun _ q => q) fun _ _ q => q
    rintro rfl
    rcases hc with rfl | hc
    · rw [hfree] at e; cases e
    · rw [hfree] at hc; cases hc
  rcases hx with hk | hk
  · refine wpAny_storeName_local hk hn (fun h' hn' hs => ?_) hcls
    obtain ⟨oL, _, _, hoL, _⟩ := id hn
    refine h _ ⟨I.ok, I.os, I.bare, ⟨fun b o e n hb hx => ?_, fun b o e n hb hx => ?_, I.base.free, fun b o e hx => ?_, I.base.tups, I.base.frzs, I.base.tbls⟩, ⟨_, hn', fun j y v' e1 e2 e3 => ?_⟩, fun y c e => ?_, I.free, I.freeC, fun p hp => ?_, tracked ⟨oL, hoL, I.free⟩ hs, by simpa using I.len⟩ ⟨_, hs, .inl rfl⟩
    · exact (hs.2 b (Nat.ne_of_lt (Nat.lt_of_lt_of_le (Heap.lt_size e) I.ok.above))).trans (I.base.keep b o e n hb hx)
    · obtain ⟨sl, e1⟩ := I.base.slot b o e n hb hx
      exact ⟨sl, (hs.2 b (Nat.ne_of_lt (Nat.lt_of_lt_of_le (Heap.lt_size e) I.ok.above))).trans e1⟩
    · obtain ⟨o', e1⟩ := I.base.there b o e hx
      exact ⟨o', (hs.2 b (Nat.ne_of_lt (Nat.lt_of_lt_of_le (Heap.lt_size e) I.ok.above))).trans e1⟩
    · by_cases hj : j = i
      · subst hj
        rw [hi] at e1; cases e1
        rw [List.getElem?_set_self hiσ] at e2
        cases e2
        exact ⟨u, r, .inl ⟨hk, by simp⟩⟩
      · rw [List.getElem?_set_ne (Ne.symm hj)] at e2
        obtain ⟨u', r', q⟩ := hl j y v' e1 e2 e3
        refine ⟨u', r', ?_⟩
        rcases q with ⟨k, e⟩ | ⟨k, c, e, z⟩
        · refine .inl ⟨k, ?_⟩
          have : y ≠ x := fun e => hj (nodup_ix hN e1 (e ▸ hi))
          simp [this, e]
        · exact .inr ⟨k, c, e, z.sameBut hs (cne y c e)⟩
    · obtain ⟨w', z⟩ := I.cell y c e
      exact ⟨w', z.sameBut hs (cne y c e)⟩
    · obtain ⟨e, n, ne, nf, d⟩ := I.pin p hp
      exact ⟨(hs.2 p.1 ne).trans e, n, ne, nf, d⟩
  · have hfn : X.fn x = true := by
      rcases hf with z | z
      · exact z
      · rw [z] at hk; cases hk
    obtain ⟨c, hc⟩ := I.ok.has x (.inl hk)
    obtain ⟨w', z⟩ := I.cell x c hc
    refine wpAny_storeName_cell I.ok.kind hk hc z (fun h' hc' hs => ?_)
    obtain ⟨oc, hoc, hocd⟩ := id z
    refine h { s with heap := h' } ⟨I.ok, I.os, I.bare, ⟨fun b o e n hb hx => ?_, fun b o e n hb hx => ?_, I.base.free, fun b o e hx => ?_, I.base.tups, I.base.frzs, I.base.tbls⟩, ⟨m, hn.sameBut hs (Ne.symm (cne x c hc)), fun j y v' e1 e2 e3 => ?_⟩, fun y c' e => ?_, I.free, I.freeC, fun p hp => ?_, tracked ⟨oc, hoc, I.freeC x c hc⟩ hs, by simpa using I.len⟩ ⟨c, hs, .inr hc⟩
    · exact (hs.2 b (Nat.ne_of_lt (Nat.lt_of_lt_of_le (Heap.lt_size e) (I.ok.cab x c hfn hc)))).trans (I.base.keep b o e n hb hx)
    · obtain ⟨sl, e1⟩ := I.base.slot b o e n hb hx
      exact ⟨sl, (hs.2 b (Nat.ne_of_lt (Nat.lt_of_lt_of_le (Heap.lt_size e) (I.ok.cab x c hfn hc)))).trans e1⟩
    · obtain ⟨o', e1⟩ := I.base.there b o e hx
      exact ⟨o', (hs.2 b (Nat.ne_of_lt (Nat.lt_of_lt_of_le (Heap.lt_size e) (I.ok.cab x c hfn hc)))).trans e1⟩
    · by_cases hj : j = i
      · subst hj
        rw [hi] at e1; cases e1
        rw [List.getElem?_set_self hiσ] at e2
        cases e2
        exact ⟨u, r, .inr ⟨.inl hk, c, hc, hc'⟩⟩
      · rw [List.getElem?_set_ne (Ne.symm hj)] at e2
        obtain ⟨u', r', q⟩ := hl j y v' e1 e2 e3
        refine ⟨u', r', ?_⟩
        rcases q with q | ⟨k, c', e, z'⟩
        · exact .inl q
        · refine .inr ⟨k, c', e, z'.sameBut hs ?_⟩
          rintro rfl
          exact hj (nodup_ix hN e1 (I.ok.inj _ _ _ e hc ▸ hi))
    · by_cases hcc : c' = c
      · subst hcc; exact ⟨_, hc'⟩
      · obtain ⟨w2, z2⟩ := I.cell y c' e
        exact ⟨w2, z2.sameBut hs hcc⟩
    · obtain ⟨e, n, ne, nf, d⟩ := I.pin p hp
      refine ⟨(hs.2 p.1 ?_).trans e, n, ne, nf, d⟩
      intro q
      rw [q, hoc] at e
      have q' : oc = p.2 := Option.some.inj e
      exact d w' (by rw [← q']; exact hocd)
theorem store_ok {M : Model} {A : Around} {E : Value → Shared → Prop} {i : Nat} {x : Str} {v : V} {u : Value} {Q : Unit → Shared → Prop} (I : Inv X pins σ H s) (hN : X.N.Nodup) (hi : X.N[i]? = some x) (hx : Loc X.env.scope x) (r : RelV v u)
    (h : ∀ s', Inv X pins (σ.set i (some v)) H s' → Q () s') (hf : X.fn x = true ∨ X.env.scope.names.lookup x = some .local := by first | exact .inl rfl | exact .inr rfl | assumption) : wpAny M A (storeName X.env x u) Q E s :=
  store_ok2 I hN hi hx r (fun s' I' _ => h s' I') hf
theorem Inv.call' {s' : Shared} {ch : List Addr} (I : Inv X pins σ H s) (ho : s'.os = s.os) (u : Un (frs X.stack) ch H H' s.heap s'.heap) (hok : HOk X.prog X.w H' s'.heap) (hg : AllBare s'.gens)
    (hch : ∀ b ∈ ch, (b ∈ X.ex ∨ X.s₀.heap.objs.size ≤ b) ∧ b ≠ X.env.locals ∧ (∀ x c, X.env.cells.lookup x = some c → c ≠ b) ∧ ∀ p ∈ X.pn ++ pins, p.1 ≠ b) : Inv X pins σ H' s' := by
  obtain ⟨h', g', d', t', o'⟩ := s'
  have e : o' = s.os := ho
  subst e
  exact I.call (g' := g') (t' := t') (d' := d') u hok hg hch
end
abbrev XK := Value → Option Addr → Hp → Prop
abbrev St := List (Option V)
abbrev VK := V → Hp → Prop
abbrev TE := St → Hp → VK → Prop
abbrev TT := St → Hp → (Bool → Hp → Prop) → Prop
abbrev TA := St → Hp → (List V → Hp → Prop) → Prop
structure Ends where
  nx : St → Hp → Prop
  rt : VK
  bk : St → Hp → Prop := fun _ _ => False
  ct : St → Hp → Prop := fun _ _ => False
abbrev TS := Ends → St → Hp → Prop
def EP (X : Cx) (pins : List (Addr × Obj)) (σ : St) (Q : VK) (u : Value) (s' : Shared) : Prop := ∃ v H', Inv X pins σ H' s' ∧ RelV v u ∧ Q v H'
def TP (X : Cx) (pins : List (Addr × Obj)) (σ : St) (Q : Bool → Hp → Prop) (b : Bool) (s' : Shared) : Prop := ∃ H', Inv X pins σ H' s' ∧ Q b H'
def AP (X : Cx) (pins : List (Addr × Obj)) (σ : St) (Q : List V → Hp → Prop) (us : List Value) (s' : Shared) : Prop := ∃ vs H', Inv X pins σ H' s' ∧ Vals vs us ∧ Q vs H'
def SP (X : Cx) (pins : List (Addr × Obj)) (D : Ends) (f : Flow) (s' : Shared) : Prop :=
  match f with
  | .next => ∃ σ' H', Inv X pins σ' H' s' ∧ D.nx σ' H'
  | .brk => ∃ σ' H', Inv X pins σ' H' s' ∧ D.bk σ' H'
  | .cont => ∃ σ' H', Inv X pins σ' H' s' ∧ D.ct σ' H'
  | .ret u => ∃ v σ' H', Inv X pins σ' H' s' ∧ RelV v u ∧ D.rt v H'
def PE (X : Cx) (e : Expr) (t : TE) : Prop :=
  ∀ (pins : List (Addr × Obj)) (s : Shared) (σ : St) (H : Hp) (Q : VK), Inv X pins σ H s → t σ H Q → wpAny (model X.prog X.w) X.A (eval e X.env) (EP X pins σ Q) X.xe s
def PT (X : Cx) (e : Expr) (t : TT) : Prop :=
  ∀ (pins : List (Addr × Obj)) (s : Shared) (σ : St) (H : Hp) (Q : Bool → Hp → Prop), Inv X pins σ H s → t σ H Q → wpAny (model X.prog X.w) X.A (isTrue e X.env (eval e X.env)) (TP X pins σ Q) X.xe s
def PW (X : Cx) (e : Expr) (t : TT) : Prop :=
  ∀ (whole : Sem Value) (pins : List (Addr × Obj)) (s : Shared) (σ : St) (H : Hp) (Q : Bool → Hp → Prop), Inv X pins σ H s → t σ H Q → wpAny (model X.prog X.w) X.A (isTrue e X.env whole) (TP X pins σ Q) X.xe s
theorem PW.pt {X : Cx} {e : Expr} {t : TT} (h : PW X e t) : PT X e t := h _
def PA (X : Cx) (es : List Expr) (t : TA) : Prop :=
  ∀ (pos : Pos) (pins : List (Addr × Obj)) (s : Shared) (σ : St) (H : Hp) (Q : List V → Hp → Prop), Inv X pins σ H s → t σ H Q → wpAny (model X.prog X.w) X.A (spliced (backTo pos (starEach es X.env))) (AP X pins σ Q) X.xe s
def PS (X : Cx) (st : Stmt) (t : TS) : Prop :=
  ∀ (pins : List (Addr × Obj)) (s : Shared) (σ : St) (H : Hp) (D : Ends), Inv X pins σ H s → t D σ H → wpAny (model X.prog X.w) X.A (exec st X.env) (SP X pins D) X.xe s
def PSs (X : Cx) (st : List Stmt) (t : TS) : Prop :=
  ∀ (pins : List (Addr × Obj)) (s : Shared) (σ : St) (H : Hp) (D : Ends), Inv X pins σ H s → t D σ H → wpAny (model X.prog X.w) X.A (execs st X.env) (SP X pins D) X.xe s
theorem thn {α : Type} {t : Sem α} {Q Q' : α → Shared → Prop} {M : Model} {A : Around} {E : Value → Shared → Prop} {s : Shared} (h : wpAny M A t Q E s) (hQ : ∀ a s, Q a s → Q' a s) : wpAny M A t Q' E s := wpAny_mono h hQ fun _ _ x => x
end L2
namespace L2
open PySem PySem.Spec PyProof.Rows
section
variable {X : Cx}
def tVar (i : Nat) : TE := fun σ H Q => ∃ v, σ[i]? = some (some v) ∧ Q v H
def tC (v : V) : TE := fun _ H Q => Q v H
theorem pe_var {i : Nat} {x : Str} {pos : Pos} (hN : X.N[i]? = some x) (hv : Vis X.env.scope x) (hd : (x == ("__debug__" : Str)) = false := by decide) (hcd : (x == ("__classdict__" : Str)) = false := by decide) : PE X (.Name x pos) (tVar i) := by
  intro pins s σ H Q I h
  obtain ⟨v, e, h⟩ := h
  obtain ⟨m, hn, hl⟩ := I.loc
  obtain ⟨u, r, l⟩ := hl i x v hN e hv
  have fin : EP X pins σ Q u s := ⟨v, H, I, r, h⟩
  rcases l with ⟨hk, hm⟩ | ⟨hk, c, hc, hcell⟩
  · exact wpAny_Name (wpAny_loadName_local I.ok.kind hk hn hm fin) hd
  · rcases hk with hk | hk
    · exact wpAny_Name (wpAny_loadName_cell I.ok.kind hk hc hcell fin) hd
    · exact wpAny_Name (wpAny_loadName_free I.ok.kind hk hc hcell fin hcd) hd
theorem pe_int {i j pos} : PE X (.Constant (.int i) j pos) (tC (.int i)) := fun _ _ _ H _ I h => wpAny_Constant_int ⟨.int i, H, I.tok _, ⟨_, rfl⟩, h⟩
theorem pe_bl {b j pos} : PE X (.Constant (.bool b) j pos) (tC (.bl b)) := fun _ _ _ H _ I h => Constant_bool ⟨.bl b, H, I, rfl, h⟩
theorem pe_non {j pos} : PE X (.Constant .none j pos) (tC .non) := fun _ _ _ H _ I h => Constant_none ⟨.non, H, I, rfl, h⟩
theorem pe_str {x j pos} : PE X (.Constant (.str x) j pos) (tC (.str x)) := fun _ _ _ H _ I h => Calls.Constant_str ⟨.str x, H, I.tok _, ⟨_, rfl⟩, h⟩
def Gl (X : Cx) (x : Str) : Prop := X.env.kindOf x = some .globalImplicit
theorem ld_glob {E : Value → Shared → Prop} {pins : List (Addr × Obj)} {s : Shared} {σ : St} {H : Hp} {x : Str} {u : Value} {pos : Pos} {Q : Value → Shared → Prop} (I : Inv X pins σ H s) (hg : Gl X x) (hm : X.mg x = some u) (h : Q u s)
    (hd : (x == ("__debug__" : Str)) = false := by decide) : wpAny (model X.prog X.w) X.A (eval (.Name x pos) X.env) Q E s :=
  Calls.Name_function_global I.ok.kind hg (Calls.loadGlobal_global (by rw [I.ok.glob]; exact I.mod.glob.keeps I.bk) hm h) hd
theorem ld_blt {E : Value → Shared → Prop} {pins : List (Addr × Obj)} {s : Shared} {σ : St} {H : Hp} {x : Str} {u : Value} {pos : Pos} {Q : Value → Shared → Prop} (I : Inv X pins σ H s) (hg : Gl X x) (hm : X.mg x = none) (hv : bootBuiltins x = some u) (h : Q u s)
    (hn : x ≠ "__name__" := by decide) (hd : (x == ("__debug__" : Str)) = false := by decide) : wpAny (model X.prog X.w) X.A (eval (.Name x pos) X.env) Q E s := by
  obtain ⟨mb, h1, h2⟩ := I.mod.blt
  exact Calls.Name_function_global I.ok.kind hg (Calls.loadGlobal_builtin (by rw [I.ok.glob]; exact I.mod.glob.keeps I.bk) hm (by rw [I.ok.blt]; exact h1.keeps I.bk) ((h2 x hn).trans hv) h) hd
theorem pe_glob {x : Str} {v : V} {u : Value} {pos : Pos} (hg : Gl X x) (hm : X.mg x = some u) (r : RelV v u) (hd : (x == ("__debug__" : Str)) = false := by decide) : PE X (.Name x pos) (tC v) :=
  fun _ _ _ H _ I h => ld_glob I hg hm ⟨v, H, I, r, h⟩ hd
theorem pe_bltn {x : Str} {v : V} {u : Value} {pos : Pos} (hg : Gl X x) (hm : X.mg x = none) (hv : bootBuiltins x = some u) (r : RelV v u) (hn : x ≠ "__name__" := by decide) (hd : (x == ("__debug__" : Str)) = false := by decide) : PE X (.Name x pos) (tC v) :=
  fun _ _ _ H _ I h => ld_blt I hg hm hv ⟨v, H, I, r, h⟩ hn hd
variable {a b : Expr} {ta tb : TE} {pos : Pos}
variable {tA tB' : TT} {rest : List Expr}
def tAnd (t u : TT) : TT := fun σ H Q => t σ H fun c H1 => if c = true then u σ H1 Q else Q false H1
def tOr (t u : TT) : TT := fun σ H Q => t σ H fun c H1 => if c = true then Q true H1 else u σ H1 Q
def tNot (t : TT) : TT := fun σ H Q => t σ H fun c H1 => Q (!c) H1
theorem pw_and1 (ha : PT X a tA) : PW X (.BoolOp .And [a] pos) tA := by
  intro wh pins s σ H Q I h
  refine isTrue_and (thn (ha pins s σ H Q I h) fun c s1 e => ?_)
  cases c with
  | true => exact isTrue_and_nil e
  | false => exact e
theorem pw_or1 (ha : PT X a tA) : PW X (.BoolOp .Or [a] pos) tA := by
  intro wh pins s σ H Q I h
  refine isTrue_or (thn (ha pins s σ H Q I h) fun c s1 e => ?_)
  cases c with
  | false => exact isTrue_or_nil e
  | true => exact e
theorem pw_and (ha : PT X a tA) (hb : PW X (.BoolOp .And (b :: rest) pos) tB') : PW X (.BoolOp .And (a :: b :: rest) pos) (tAnd tA tB') := by
  intro wh pins s σ H Q I h
  refine isTrue_and (thn (ha pins s σ H _ I h) fun c s1 ⟨H1, I1, q1⟩ => ?_)
  cases c with
  | true => exact hb wh pins s1 σ H1 Q I1 q1
  | false => exact ⟨H1, I1, q1⟩
theorem pw_or (ha : PT X a tA) (hb : PW X (.BoolOp .Or (b :: rest) pos) tB') : PW X (.BoolOp .Or (a :: b :: rest) pos) (tOr tA tB') := by
  intro wh pins s σ H Q I h
  refine isTrue_or (thn (ha pins s σ H _ I h) fun c s1 ⟨H1, I1, q1⟩ => ?_)
  cases c with
  | true => exact ⟨H1, I1, q1⟩
  | false => exact hb wh pins s1 σ H1 Q I1 q1
theorem pt_not (ha : PT X a tA) : PT X (.UnaryOp .Not a pos) (tNot tA) := by
  intro pins s σ H Q I h
  exact isTrue_not (ha pins s σ H (fun c H1 => Q (!c) H1) I h)
def tAndV (ta tb : TE) : TE := fun σ H Q => ta σ H fun x H1 => ∃ c, x = .bl c ∧ if c = true then tb σ H1 Q else Q (.bl false) H1
def tOrV (ta tb : TE) : TE := fun σ H Q => ta σ H fun x H1 => ∃ c, x = .bl c ∧ if c = true then Q (.bl true) H1 else tb σ H1 Q
def tNotV (ta : TE) : TE := fun σ H Q => ta σ H fun x H1 => ∃ c, x = .bl c ∧ Q (.bl (!c)) H1
theorem pe_one {op} {t : TE} (h : PE X a t) : PE X (.BoolOp op [a] pos) t := fun pins s σ H Q I hw => BoolOp_one (h pins s σ H Q I hw)
theorem pe_and (ha : PE X a ta) (hb : PE X (.BoolOp .And (b :: rest) pos) tb) : PE X (.BoolOp .And (a :: b :: rest) pos) (tAndV ta tb) := by
  intro pins s σ H Q I h
  refine BoolOp_and (thn (ha pins s σ H _ I h) fun v s1 ⟨x, H1, I1, r1, q1⟩ => ?_)
  obtain ⟨c, rfl, q1⟩ := q1
  cases r1
  refine wpAny_truthy_bool ?_
  cases c with
  | true => exact hb pins s1 σ H1 Q I1 q1
  | false => exact ⟨.bl false, H1, I1, rfl, q1⟩
theorem pe_or (ha : PE X a ta) (hb : PE X (.BoolOp .Or (b :: rest) pos) tb) : PE X (.BoolOp .Or (a :: b :: rest) pos) (tOrV ta tb) := by
  intro pins s σ H Q I h
  refine BoolOp_or (thn (ha pins s σ H _ I h) fun v s1 ⟨x, H1, I1, r1, q1⟩ => ?_)
  obtain ⟨c, rfl, q1⟩ := q1
  cases r1
  refine wpAny_truthy_bool ?_
  cases c with
  | false => exact hb pins s1 σ H1 Q I1 q1
  | true => exact ⟨.bl true, H1, I1, rfl, q1⟩
theorem pe_not (ha : PE X a ta) : PE X (.UnaryOp .Not a pos) (tNotV ta) := by
  intro pins s σ H Q I h
  refine UnaryOp_ (thn (ha pins s σ H _ I h) fun v s1 ⟨x, H1, I1, r1, q1⟩ => ?_)
  obtain ⟨c, rfl, q1⟩ := q1
  cases r1
  exact not_of (wpAny_truthy_bool ⟨.bl (!c), H1, I1, rfl, q1⟩)
end
end L2
namespace L2
open PySem PySem.Spec PyProof.Rows
def SqL (K : PySem.W.Frag) (H : Hp) (a : Addr) (xs : List V) : Prop :=
  Rd H a (.lst xs) ∨
    ∃ (o : Obj) (its : Array Value) (n : Nat), K.lookup a = some o ∧ o.cls = .type "list" ∧ o.dict = none ∧ o.data = .seq its n ∧ its.size ≤ sizeLine ∧ Vals xs its.toList
def SqT (K : PySem.W.Frag) (H : Hp) (a : Addr) (xs : List V) : Prop :=
  Rd H a (.tup xs) ∨
    ∃ (o : Obj) (its : Array Value) (n : Nat), K.lookup a = some o ∧ o.cls = .type "tuple" ∧ o.data = .seq its n ∧ its.size ≤ sizeLine ∧ Vals xs its.toList
def absV : Value → Option V
  | .none => some .non
  | .bool b => some (.bl b)
  | .int i _ => some (.int i)
  | .str x _ => some (.str x)
  | .bytes b _ => some (.byt b)
  | .float b _ => some (.flt b)
  | .ref a => some (.ref a)
  | .type n => some (.ty n)
  | _ => none
theorem RelV.abs {x : V} {u : Value} (r : RelV x u) : absV u = some x := by
  cases x with
  | non => cases r; rfl
  | bl _ => cases r; rfl
  | int _ => obtain ⟨t, rfl⟩ := r; rfl
  | str _ => obtain ⟨t, rfl⟩ := r; rfl
  | byt _ => obtain ⟨t, rfl⟩ := r; rfl
  | flt _ => obtain ⟨t, rfl⟩ := r; rfl
  | ref _ => cases r; rfl
  | ty _ => cases r; rfl
theorem RelV.inj {x y : V} {u : Value} (r : RelV x u) (q : RelV y u) : x = y := Option.some.inj (r.abs.symm.trans q.abs)
theorem Vals.inj : ∀ {xs ys : List V} {us : List Value}, Vals xs us → Vals ys us → xs = ys
  | _, _, _, .nil, .nil => rfl
  | _, _, _, .cons r t, .cons r' t' => by rw [r.inj r', Vals.inj t t']
section
variable {X : Cx} {pins : List (Addr × Obj)} {σ : St} {H : Hp} {s : Shared} {a : Addr} {xs ys : List V}
theorem SqL.of {K : PySem.W.Frag} (h : H a = some (.lst xs)) : SqL K H a xs := .inl (.inl h)
theorem Inv.list (I : Inv X pins σ H s) (h : SqL X.K H a xs) : ∃ its : List Value, Vals xs its ∧ PlainL s.heap a its.toArray ∧ xs.length ≤ sizeLine := by
  rcases h with h | ⟨o, its, n, hk, hc, hd, hs, hz, r⟩
  · obtain ⟨z, its, n, r, e⟩ := h.ok I.hok
    exact ⟨its, r, ⟨_, n, e, rfl, rfl, rfl⟩, z⟩
  · refine ⟨its.toList, r, ⟨o, n, I.kIn a o hk, hc, hd, by simpa using hs⟩, ?_⟩
    have e := r.length
    simp only [Array.length_toList] at e
    omega
theorem Inv.tuple (I : Inv X pins σ H s) (h : SqT X.K H a xs) : ∃ its : List Value, Vals xs its ∧ IsTup s.heap a its.toArray ∧ xs.length ≤ sizeLine := by
  rcases h with h | ⟨o, its, n, hk, hc, hs, hz, r⟩
  · obtain ⟨z, its, r, p⟩ := h.ok I.hok
    exact ⟨its, r, p, z⟩
  · refine ⟨its.toList, r, ⟨o, I.kIn a o hk, hc, n, by simpa using hs⟩, ?_⟩
    have e := r.length
    simp only [Array.length_toList] at e
    omega
theorem Inv.list_inj (I : Inv X pins σ H s) (h : SqL X.K H a xs) (h' : SqL X.K H a ys) : xs = ys := by
  obtain ⟨its, r, ⟨o, n, e, _, _, d⟩, _⟩ := I.list h
  obtain ⟨its', r', ⟨o', n', e', _, _, d'⟩, _⟩ := I.list h'
  rw [e] at e'; cases e'
  rw [d] at d'
  injection d' with d1 _
  have : its = its' := by simpa using congrArg Array.toList d1
  subst this
  exact r.inj r'
theorem Inv.tuple_inj (I : Inv X pins σ H s) (h : SqT X.K H a xs) (h' : SqT X.K H a ys) : xs = ys := by
  obtain ⟨its, r, ⟨o, e, _, n, d⟩, _⟩ := I.tuple h
  obtain ⟨its', r', ⟨o', e', _, n', d'⟩, _⟩ := I.tuple h'
  rw [e] at e'; cases e'
  rw [d] at d'
  injection d' with d1 _
  have : its = its' := by simpa using congrArg Array.toList d1
  subst this
  exact r.inj r'
end
abbrev Cx.wish (X : Cx) (E : Value → Shared → Prop) : Cx := { X with xe := E }
abbrev Cx.nox (X : Cx) : Cx := X.wish fun _ _ => False
theorem Cx.Ok.wish {X : Cx} (ok : X.Ok) (E : Value → Shared → Prop) : (X.wish E).Ok :=
  ⟨ok.mod, ok.kind, ok.glob, ok.blt, ok.above, ok.inj, ok.has, ok.cab, ok.hd, ok.frames, ok.stk, ok.exf, ok.bs, ok.bsz, ok.noex, ok.exfs, ok.funs, ok.frf⟩
theorem Cx.Ok.unwish {X : Cx} {E : Value → Shared → Prop} (ok : (X.wish E).Ok) : X.Ok :=
  ⟨ok.mod, ok.kind, ok.glob, ok.blt, ok.above, ok.inj, ok.has, ok.cab, ok.hd, ok.frames, ok.stk, ok.exf, ok.bs, ok.bsz, ok.noex, ok.exfs, ok.funs, ok.frf⟩
section
variable {X : Cx} {pins : List (Addr × Obj)} {σ : St} {H : Hp} {s : Shared} {E : Value → Shared → Prop}
theorem Inv.wish (I : Inv X pins σ H s) (E : Value → Shared → Prop) : Inv (X.wish E) pins σ H s := ⟨I.ok.wish E, I.os, I.bare, I.base, I.loc, I.cell, I.free, I.freeC, I.pin, I.hok, I.len⟩
theorem Inv.unwish (I : Inv (X.wish E) pins σ H s) : Inv X pins σ H s := ⟨I.ok.unwish, I.os, I.bare, I.base, I.loc, I.cell, I.free, I.freeC, I.pin, I.hok, I.len⟩
theorem SP.unwish {D : Ends} {f : Flow} {s' : Shared} (h : SP (X.wish E) pins D f s') : SP X pins D f s' := by
  cases f with
  | next => obtain ⟨σ', H', I, q⟩ := h; exact ⟨σ', H', I.unwish, q⟩
  | brk => obtain ⟨σ', H', I, q⟩ := h; exact ⟨σ', H', I.unwish, q⟩
  | cont => obtain ⟨σ', H', I, q⟩ := h; exact ⟨σ', H', I.unwish, q⟩
  | ret u => obtain ⟨v, σ', H', I, r, q⟩ := h; exact ⟨v, σ', H', I.unwish, r, q⟩
theorem PSs.nox {st : List Stmt} {t : TS} (h : PSs X.nox st t) : PSs X st t := fun pins s σ H D I hw =>
  wpAny_mono (h pins s σ H D (I.wish _) hw) (fun _ _ q => q.unwish) fun _ _ z => False.elim z
end
section
variable {X : Cx} {st : Stmt} {rest : List Stmt} {t u : TS} {e : Expr} {te : TE} {pos : Pos}
def tNext : TS := fun D σ H => D.nx σ H
def tSeq (t u : TS) : TS := fun D σ H => t { D with nx := u D } σ H
theorem pss_nil : PSs X [] tNext := fun _ _ σ H _ I h => wpAny_execs_nil ⟨σ, H, I, h⟩
theorem pss_cons (h1 : PS X st t) (h2 : PSs X rest u) : PSs X (st :: rest) (tSeq t u) := by
  intro pins s σ H D I h
  refine wpAny_execs_cons (thn (h1 pins s σ H { D with nx := u D } I h) fun f s1 q => ?_)
  cases f with
  | next =>
    obtain ⟨σ', H', I', q⟩ := q
    exact h2 pins s1 σ' H' D I' q
  | ret v => exact q
  | brk => exact q
  | cont => exact q
theorem pss_one (h1 : PS X st t) : PSs X [st] t := by
  intro pins s σ H D I h
  refine wpAny_execs_cons (thn (h1 pins s σ H D I h) fun f s1 q => ?_)
  cases f with
  | next => exact wpAny_execs_nil q
  | ret v => exact q
  | brk => exact q
  | cont => exact q
theorem Inv.quiet {pins : List (Addr × Obj)} {σ : St} {H : Hp} {s : Shared} (I : Inv X pins σ H s) : interactive X.env = false := by simp [interactive, I.ok.kind]
def tDrop (te : TE) : TS := fun D σ H => te σ H fun _ H1 => D.nx σ H1
theorem ps_expr (he : PE X e te) (hs : swapsWith e none pos.line X.env = pure false := by rfl) : PS X (.Expr e pos) (tDrop te) := by
  intro pins s σ H D I h
  exact wpAny_Expr_any (thn (he pins s σ H _ I h) fun v s1 ⟨x, H1, I1, r1, q1⟩ => ⟨σ, H1, I1, q1⟩) I.quiet hs
def tRet (te : TE) : TS := fun D σ H => te σ H D.rt
theorem ps_ret (he : PE X e te) : PS X (.Return (some e) pos) (tRet te) := by
  intro pins s σ H D I h
  exact wpAny_Return_some (thn (he pins s σ H _ I h) fun v s1 ⟨x, H1, I1, r1, q1⟩ => ⟨x, σ, H1, I1, r1, q1⟩)
def tIfS (c : TT) (t u : TS) : TS := fun D σ H => c σ H fun b H1 => if b = true then t D σ H1 else u D σ H1
theorem ps_if {c : Expr} {a b : List Stmt} {tc : TT} (hc : PT X c tc) (ha : PSs X a t) (hb : PSs X b u) : PS X (.If c a b pos) (tIfS tc t u) := by
  intro pins s σ H D I h
  refine wpAny_If (thn (hc pins s σ H _ I h) fun d s1 ⟨H1, I1, q1⟩ => ?_)
  cases d with
  | true => exact ha pins s1 σ H1 D I1 q1
  | false => exact hb pins s1 σ H1 D I1 q1
end
abbrev TG := V → St → Hp → (St → Hp → Prop) → Prop
abbrev TGs := List V → St → Hp → (St → Hp → Prop) → Prop
def PG (X : Cx) (target : Expr) (t : TG) : Prop :=
  ∀ (pins : List (Addr × Obj)) (s : Shared) (σ : St) (H : Hp) (v : V) (u : Value) (Q : St → Hp → Prop), Inv X pins σ H s → RelV v u → t v σ H Q →
    wpAny (model X.prog X.w) X.A (assign target X.env u) (fun _ s' => ∃ σ' H', Inv X pins σ' H' s' ∧ Q σ' H') X.xe s
def PGs (X : Cx) (ts : List Expr) (t : TGs) : Prop :=
  ∀ (pins : List (Addr × Obj)) (s : Shared) (σ : St) (H : Hp) (vs : List V) (us : List Value) (Q : St → Hp → Prop), Inv X pins σ H s → Vals vs us → t vs σ H Q →
    wpAny (model X.prog X.w) X.A (assignInOrder ((assignEach ts X.env).map (·.2)) us) (fun _ s' => ∃ σ' H', Inv X pins σ' H' s' ∧ Q σ' H') X.xe s
abbrev TSet := V → V → V → Hp → (Hp → Prop) → Prop
def PSet (X : Cx) (t : TSet) : Prop :=
  ∀ (pins : List (Addr × Obj)) (s : Shared) (σ : St) (H : Hp) (o i v : V) (ov iv u : Value) (Q : Hp → Prop), Inv X pins σ H s → RelV o ov → RelV i iv → RelV v u → t o i v H Q →
    wpAny (model X.prog X.w) X.A (setItem ov iv u) (fun _ s' => ∃ H', Inv X pins σ H' s' ∧ Q H') X.xe s
section
variable {X : Cx} {pos : Pos}
def gName (i : Nat) : TG := fun v σ H Q => Q (σ.set i (some v)) H
theorem pg_name {i : Nat} {x : Str} (hN : X.N.Nodup) (hi : X.N[i]? = some x) (hx : Loc X.env.scope x) (hf : X.fn x = true ∨ X.env.scope.names.lookup x = some .local := by first | exact .inl rfl | exact .inr rfl | assumption) : PG X (.Name x pos) (gName i) := by
  intro pins s σ H v u Q I r h
  exact wpAny_assign_Name (store_ok I hN hi hx r (fun s' I' => ⟨_, H, I', h⟩) hf)
def gNil : TGs := fun vs σ H Q => vs = [] ∧ Q σ H
def gCons (t : TG) (u : TGs) : TGs := fun vs σ H Q => ∃ v r, vs = v :: r ∧ t v σ H fun σ' H' => u r σ' H' Q
theorem pgs_nil : PGs X [] gNil := by
  intro pins s σ H vs us Q I r h
  obtain ⟨e, h⟩ := h
  subst e
  cases r
  exact assignInOrder_nil ⟨σ, H, I, h⟩
theorem pgs_cons {e : Expr} {es : List Expr} {t : TG} {u : TGs} (h1 : PG X e t) (h2 : PGs X es u)
    (hs : (assignEach (e :: es) X.env).map (·.2) = assign e X.env :: (assignEach es X.env).map (·.2) := by rfl) : PGs X (e :: es) (gCons t u) := by
  intro pins s σ H vs us Q I r h
  obtain ⟨v, vr, e1, h⟩ := h
  subst e1
  cases r with
  | cons r rr =>
    rw [hs]
    refine assignInOrder_cons (thn (h1 pins s σ H _ _ _ I r h) fun _ s1 ⟨σ1, H1, I1, q1⟩ => ?_)
    exact h2 pins s1 σ1 H1 _ _ Q I1 rr q1
def gTup (K : PySem.W.Frag) (n : Nat) (t : TGs) : TG := fun v σ H Q => ∃ a xs, v = .ref a ∧ SqT K H a xs ∧ xs.length = n ∧ t xs σ H Q
theorem pg_tup {es : List Expr} {k : Nat} {t : TGs} {n : Nat} (hc : X.calm = true) (h : PGs X es t)
    (hn : (assignEach es X.env).length = n := by rfl) (hst : (assignEach es X.env).findIdx? (·.1) = none := by rfl) : PG X (.Tuple es k pos) (gTup X.K n t) := by
  intro pins s σ H v u Q I r hw
  obtain ⟨a, xs, e1, hq, hl, hw⟩ := hw
  subst e1
  cases r
  obtain ⟨its, rv, ht, hz⟩ := I.tuple hq
  refine assign_Tuple_tuple (I.ok.hd hc) ht (by simp [hn, ← hl, rv.length]) hst fun h' hx => ?_
  have I1 : Inv X pins σ H { s with heap := h' } := I.kept (t' := s.toks) fun b o e => hx b o (Nat.ne_of_lt (Heap.lt_size e)) e
  exact h pins _ σ H xs _ Q I1 (by simpa using rv) hw
def gSub (to ti : TE) (t : TSet) : TG := fun v σ H Q => to σ H fun o H1 => ti σ H1 fun i H2 => t o i v H2 fun H3 => Q σ H3
theorem pg_sub {o i : Expr} {to ti : TE} {t : TSet} (ho : PE X o to) (hi : PE X i ti) (hs : PSet X t)
    (ha : ∀ v, assign (.Subscript o i pos) X.env v = (do
      let ov ← holding [v] (eval o X.env)
      let iv ← holding [v, ov] (eval i X.env)
      standAt pos
      holding [v, ov, iv] (setItem ov iv v)
      release [v, ov, iv] []) := by intro _; rfl) : PG X (.Subscript o i pos) (gSub to ti t) := by
  intro pins s σ H v u Q I r h
  rw [ha]
  refine wpAny_bind (wpAny_holding (thn (ho pins s σ H _ I h) fun ov s1 ⟨x, H1, I1, r1, q1⟩ => ?_))
  refine wpAny_bind (wpAny_holding (thn (hi pins s1 σ H1 _ I1 q1) fun iv s2 ⟨y, H2, I2, r2, q2⟩ => ?_))
  refine wpAny_bind (wpAny_standAt (wpAny_bind (wpAny_holding (thn (hs pins s2 σ H2 x y v ov iv u _ I2 r1 r2 r q2) fun _ s3 ⟨H3, I3, q3⟩ => ?_))))
  exact wpAny_release ⟨σ, H3, I3, q3⟩
def tAsg (te : TE) (g : TG) : TS := fun D σ H => te σ H fun x H1 => g x σ H1 D.nx
theorem ps_asg {tg e : Expr} {te : TE} {g : TG} (he : PE X e te) (hg : PG X tg g) (hs : swapsWithSole [tg] e pos.line X.env = pure false := by rfl) (hw : swappedStores [tg] e X.env = pure none := by rfl)
    (h1 : (assignEach [tg] X.env).map (·.2) = [assign tg X.env] := by rfl) : PS X (.Assign [tg] e pos) (tAsg te g) := by
  intro pins s σ H D I h
  refine wpAny_Assign_stores (thn (he pins s σ H _ I h) fun v s1 ⟨x, H1, I1, r1, q1⟩ => ?_) hs hw
  rw [h1]
  exact thn (hg pins s1 σ H1 x v _ I1 r1 q1) fun _ s2 q => q
theorem ps_set {i : Nat} {x : Str} {e : Expr} {te : TE} {pos' : Pos} (hN : X.N.Nodup) (hi : X.N[i]? = some x) (hx : Loc X.env.scope x) (he : PE X e te) (hs : swapsWith e (some (.Name x pos')) pos.line X.env = pure false := by rfl) (hf : X.fn x = true ∨ X.env.scope.names.lookup x = some .local := by first | exact .inl rfl | exact .inr rfl | assumption) :
    PS X (.Assign [.Name x pos'] e pos) (tAsg te (gName i)) := by
  intro pins s σ H D I h
  refine wpAny_Assign_Name (thn (he pins s σ H _ I h) fun v s1 ⟨y, H1, I1, r1, q1⟩ => ?_) hs
  exact store_ok I1 hN hi hx r1 (fun s2 I2 => ⟨_, H1, I2, q1⟩) hf
def tPar (i j : Nat) (ta : TA) : TS := fun D σ H => ta σ H fun vs H1 => ∃ v w, vs = [v, w] ∧ D.nx ((σ.set i (some v)).set j (some w)) H1
theorem ps_par {i j : Nat} {x y : Str} {a b : Expr} {ta : TA} {px py pt : Pos} {kt k2 pt2} (hc : X.calm = true) (hN : X.N.Nodup) (hi : X.N[i]? = some x) (hj : X.N[j]? = some y) (hij : i ≠ j)
    (hx : X.env.scope.names.lookup x = some .local) (hy : X.env.scope.names.lookup y = some .local) (ha : PA X [a, b] ta)
    (hw : swappedStores [.Tuple [.Name x px, .Name y py] kt pt] (.Tuple [a, b] k2 pt2) X.env = pure (some [x, y]))
    (hs : swapsWithSole [.Tuple [.Name x px, .Name y py] kt pt] (.Tuple [a, b] k2 pt2) pos.line X.env = pure false := by rfl) :
    PS X (.Assign [.Tuple [.Name x px, .Name y py] kt pt] (.Tuple [a, b] k2 pt2) pos) (tPar i j ta) := by
  intro pins s σ H D I h
  rw [exec_Assign_arm]
  refine wpAny_bind (wpAny_standAt ?_)
  rw [hs]
  refine wpAny_bind (wpAny_pure ?_)
  rw [if_neg (by decide)]
  refine wpAny_bind (Tuple_ (thn (ha _ pins s σ H _ I h) fun us s1 ⟨vs, H1, I1, r1, q1⟩ => ?_))
  obtain ⟨v, w, e1, q1⟩ := q1
  subst e1
  obtain ⟨u1, u2, rfl, rv, rw'⟩ : ∃ u1 u2, us = [u1, u2] ∧ RelV v u1 ∧ RelV w u2 := by
    cases r1 with
    | cons p q =>
      cases q with
      | cons p' q' =>
        cases q'
        exact ⟨_, _, rfl, p, p'⟩
  refine wpAny_newObj_type ?_ (by show 2 ≤ sizeLine; decide)
  have I2 : Inv X pins σ H1 { s1 with heap := s1.heap.push { cls := .type "tuple", data := .seq [u1, u2].toArray } } := I1.kept (t' := s1.toks) fun b o e => Heap.get?_push_of_some _ e
  rw [hw]
  refine wpAny_bind (wpAny_pure ?_)
  show wpAny (model X.prog X.w) X.A (do rule "assign.swapped-stores"; let items ← unpackItems (.ref s1.heap.objs.size) 2 none; assignInOrder [fun v => bindName X.env y v, fun v => bindName X.env x v] items.reverse; pure Flow.next) _ _ _
  refine wpAny_bind (wpAny_rule (wpAny_bind (unpackItems_tuple (items := #[u1, u2]) (I.ok.hd hc) (IsTup.new s1.heap _) fun h' hx' => ?_)))
  have I3 := I2.kept (h' := h') (t' := s1.toks) fun b o e => hx' b o (Nat.ne_of_lt (Heap.lt_size e)) e
  show wpAny _ _ (assignInOrder [fun v => bindName X.env y v, fun v => bindName X.env x v] [u2, u1] >>= fun _ => pure Flow.next) _ _ _
  refine wpAny_bind (assignInOrder_cons (wpAny_bindName (store_ok I3 hN hj (.inl hy) rw' (fun s2 I4 => ?_) (.inr hy))))
  refine assignInOrder_cons (wpAny_bindName (store_ok I4 hN hi (.inl hx) rv (fun s3 I5 => assignInOrder_nil (wpAny_pure ?_)) (.inr hx)))
  rw [List.set_comm _ _ (Ne.symm hij)] at I5
  exact ⟨_, H1, I5, q1⟩
end
section
variable {X : Cx} {pos : Pos}
end
structure It where
  go : Nat → Hp → Prop
  yld : Nat → Hp → V → Hp → Prop
  stop : Nat → Hp → Prop
def FpOk (X : Cx) (pins : List (Addr × Obj)) (H : Hp) (b : Addr) : Prop :=
  H b = none ∧ b ≠ X.env.locals ∧ b ∉ X.fs ∧ (b ∈ X.ex ∨ X.s₀.heap.objs.size ≤ b) ∧ (∀ x c, X.env.cells.lookup x = some c → c ≠ b) ∧ ∀ p ∈ X.pn ++ pins, p.1 ≠ b
theorem Inv.fpOk {X : Cx} {pins : List (Addr × Obj)} {σ : St} {H H' : Hp} {s : Shared} {b : Addr} (I : Inv X pins σ H s) (hb : s.heap.objs.size ≤ b) (hn : H' b = none) : FpOk X pins H' b := by
  refine ⟨hn, Nat.ne_of_gt (Nat.lt_of_lt_of_le I.lt hb), I.nofs hb, .inr (Nat.le_trans I.sz hb), fun x c e z => ?_, fun p hp z => ?_⟩
  · obtain ⟨v, q⟩ := I.cell x c e
    exact absurd (Nat.lt_of_lt_of_le q.lt (by rw [z]; exact hb)) (Nat.lt_irrefl _)
  · exact absurd (Nat.lt_of_lt_of_le (Heap.lt_size (I.pin p hp).1) (by rw [z]; exact hb)) (Nat.lt_irrefl _)
structure Turn (P : Program) (w : World) (K : PySem.W.Frag) (tg : Expr) (J : It) (fp : List Addr) (it : Addr) (tn : Nat → Heap → Prop) : Prop where
  mem : it ∈ fp
  obj : ∀ i h, tn i h → ∀ b ∈ fp, ∃ o, h.get? b = some o ∧ ∀ v, o.data ≠ .cell v
  keep : ∀ i h h', tn i h → (∀ b ∈ fp, ∀ o, h.get? b = some o → h'.get? b = some o) → tn i h'
  item : ∀ (X : Cx), X.prog = P → X.w = w → X.K = K → X.calm = true → ∀ (i : Nat) (pins : List (Addr × Obj)) (s : Shared) (σ : St) (H : Hp) (E : Value → Shared → Prop), Inv X pins σ H s → (∀ b ∈ fp, FpOk X pins H b) → tn i s.heap → J.go i H →
    wpAny (model P w) X.A (pyNext (.ref it)) (fun r s1 => ∃ u, r = some u ∧
      wpAny (model P w) X.A (letOwnedTupleGo tg (.ref it) u) (fun _ s2 => ∃ x H', Inv X pins σ H' s2 ∧ RelV x u ∧ J.yld i H x H' ∧ tn (i + 1) s2.heap ∧ ∀ b ∈ fp, H' b = none) E s1) E s
  done : ∀ (X : Cx), X.prog = P → X.w = w → X.K = K → X.calm = true → ∀ (i : Nat) (pins : List (Addr × Obj)) (s : Shared) (σ : St) (H : Hp) (E : Value → Shared → Prop), Inv X pins σ H s → (∀ b ∈ fp, FpOk X pins H b) → tn i s.heap → J.stop i H →
    wpAny (model P w) X.A (pyNext (.ref it)) (fun r s1 => r = none ∧ Inv X pins σ H s1) E s
  self : ∀ (A : Around) (i : Nat) (s : Shared) (Q : Value → Shared → Prop) (E : Value → Shared → Prop), tn i s.heap → Q (.ref it) s → wpAny (model P w) A (pyIter (.ref it)) Q E s
abbrev TI := St → Hp → (It → Hp → Prop) → Prop
def PIE (X : Cx) (pins : List (Addr × Obj)) (σ : St) (tg : Expr) (R : It → Hp → Prop) (itv : Value) (s2 : Shared) : Prop :=
  ∃ (it : Addr) (fp : List Addr) (tn : Nat → Heap → Prop) (J : It) (H' : Hp), itv = .ref it ∧ Inv X pins σ H' s2 ∧ Turn X.prog X.w X.K tg J fp it tn ∧ tn 0 s2.heap ∧ (∀ b ∈ fp, FpOk X pins H' b) ∧ R J H'
def PI (X : Cx) (tg iter : Expr) (wi : TI) : Prop :=
  ∀ (pins : List (Addr × Obj)) (s : Shared) (σ : St) (H : Hp) (R : It → Hp → Prop), Inv X pins σ H s → wi σ H R →
    wpAny (model X.prog X.w) X.A (eval iter X.env) (fun v s1 => wpAny (model X.prog X.w) X.A (pyIter v) (PIE X pins σ tg R) X.xe s1) X.xe s
theorem go_of {M : Model} {A : Around} {E : Value → Shared → Prop} {s : Shared} {tg : Expr} {it : Addr} {u : Value} {o : Obj} {n : String} {vs : Array Value} {Q : Unit → Shared → Prop} (ho : s.heap.get? it = some o) (hc : o.cls = .type n) (hd : o.data = .fields vs)
    (hn : ["enumerate", "zip", "dict_itemiterator", "dict_reverseitemiterator", "odict_iterator", "itertools.zip_longest", "itertools.pairwise"].contains n = false) (hQ : Q () s) : wpAny M A (letOwnedTupleGo tg (.ref it) u) Q E s := by
  unfold letOwnedTupleGo
  cases tg <;> first
    | exact wpAny_pure hQ
    | (cases u <;> first
        | exact wpAny_pure hQ
        | (refine wpAny_bind (wpAny_load ho ?_)
           rw [hc, hd]
           show wpAny M A (if (["enumerate", "zip", "dict_itemiterator", "dict_reverseitemiterator", "odict_iterator", "itertools.zip_longest", "itertools.pairwise"].contains n && vs[0]? == some (rawInt _)) = true then _ else _) Q E s
           rw [if_neg (by intro h; rw [hn, Bool.false_and] at h; cases h)]
           exact wpAny_pure hQ))
def Itl (K : PySem.W.Frag) (a : Addr) : It :=
  ⟨fun i H => ∃ xs x, SqL K H a xs ∧ xs[i]? = some x, fun i H x H' => H' = H ∧ ∀ xs, SqL K H a xs → xs[i]? = some x, fun i H => ∃ xs, SqL K H a xs ∧ xs.length ≤ i⟩
def Itt (K : PySem.W.Frag) (a : Addr) : It :=
  ⟨fun i H => ∃ xs x, SqT K H a xs ∧ xs[i]? = some x, fun i H x H' => H' = H ∧ ∀ xs, SqT K H a xs → xs[i]? = some x, fun i H => ∃ xs, SqT K H a xs ∧ xs.length ≤ i⟩
def Itr (lo : Int) (n : Nat) : It := ⟨fun i _ => i < n, fun i H x H' => H' = H ∧ x = .int (lo + i), fun i _ => n ≤ i⟩
theorem turn_list {P : Program} {w : World} {K : PySem.W.Frag} {tg : Expr} (a it : Addr) : Turn P w K tg (Itl K a) [it] it (fun i h => h.IsListIter it a i) where
  mem := by simp
  obj := fun i h st b hb => by
    have e : b = it := by simpa using hb
    subst e
    obtain ⟨o, e, c, d⟩ := st
    exact ⟨o, e, fun v z => by rw [d] at z; cases z⟩
  keep := fun i h h' st k => st.at fun o e => k it (by simp) o e
  item := by
    intro X hP hw hK hc i pins s σ H E I hf st hg
    subst hP hw hK
    obtain ⟨xs, x, hq, hx⟩ := hg
    obtain ⟨its, rv, p, hz⟩ := I.list hq
    obtain ⟨u, hu, ru⟩ := rv.get hx
    obtain ⟨f0, f1, f2, f3, f4, f5⟩ := hf it (by simp)
    refine wpAny_pyNext_list_item st p.isList (x := u) (by simpa using hu) fun h' st' sb => ?_
    have I1 : Inv X pins σ H { s with heap := h' } := I.turned (t' := s.toks) (fun b o hb e => (sb.2 b hb).trans e) f0 f1 f3 f4 f5
    obtain ⟨o, e, c, d⟩ := id st'
    exact ⟨u, rfl, go_of (s := { s with heap := h' }) e c d (by decide) ⟨x, H, I1, ru, ⟨rfl, fun ys hy => by rw [I.list_inj hy hq]; exact hx⟩, st', fun b hb => (hf b hb).1⟩⟩
  done := by
    intro X hP hw hK hc i pins s σ H E I hf st hg
    subst hP hw hK
    obtain ⟨xs, hq, hx⟩ := hg
    obtain ⟨its, rv, p, hz⟩ := I.list hq
    obtain ⟨f0, f1, f2, f3, f4, f5⟩ := hf it (by simp)
    have hl := rv.length
    exact wpAny_pyNext_list_end (I.ok.hd hc) st p.isList (by simp; omega) fun h' eb => ⟨rfl, I.turned (t' := s.toks) (fun b o hb e => eb b o hb e) f0 f1 f3 f4 f5⟩
  self := fun _ _ _ _ _ st h => wpAny_pyIter_listiter st h
theorem turn_tuple {P : Program} {w : World} {K : PySem.W.Frag} {tg : Expr} (a it : Addr) : Turn P w K tg (Itt K a) [it] it (fun i h => h.IsTupleIter it a i) where
  mem := by simp
  obj := fun i h st b hb => by
    have e : b = it := by simpa using hb
    subst e
    obtain ⟨o, e, c, d⟩ := st
    exact ⟨o, e, fun v z => by rw [d] at z; cases z⟩
  keep := fun i h h' st k => st.at fun o e => k it (by simp) o e
  item := by
    intro X hP hw hK hc i pins s σ H E I hf st hg
    subst hP hw hK
    obtain ⟨xs, x, hq, hx⟩ := hg
    obtain ⟨its, rv, p, hz⟩ := I.tuple hq
    obtain ⟨u, hu, ru⟩ := rv.get hx
    obtain ⟨f0, f1, f2, f3, f4, f5⟩ := hf it (by simp)
    refine wpAny_pyNext_tuple_item st (show s.heap.IsTuple a its.toArray from p) (x := u) (by simpa using hu) fun h' st' sb => ?_
    have I1 : Inv X pins σ H { s with heap := h' } := I.turned (t' := s.toks) (fun b o hb e => (sb.2 b hb).trans e) f0 f1 f3 f4 f5
    obtain ⟨o, e, c, d⟩ := id st'
    exact ⟨u, rfl, go_of (s := { s with heap := h' }) e c d (by decide) ⟨x, H, I1, ru, ⟨rfl, fun ys hy => by rw [I.tuple_inj hy hq]; exact hx⟩, st', fun b hb => (hf b hb).1⟩⟩
  done := by
    intro X hP hw hK hc i pins s σ H E I hf st hg
    subst hP hw hK
    obtain ⟨xs, hq, hx⟩ := hg
    obtain ⟨its, rv, p, hz⟩ := I.tuple hq
    obtain ⟨f0, f1, f2, f3, f4, f5⟩ := hf it (by simp)
    have hl := rv.length
    exact wpAny_pyNext_tuple_end (I.ok.hd hc) st (show s.heap.IsTuple a its.toArray from p) (by simp; omega) fun h' eb => ⟨rfl, I.turned (t' := s.toks) (fun b o hb e => eb b o hb e) f0 f1 f3 f4 f5⟩
  self := fun _ _ _ _ _ st h => wpAny_pyIter_tupleiter st h
theorem turn_range {P : Program} {w : World} {K : PySem.W.Frag} {tg : Expr} (it : Addr) (lo : Int) (n : Nat) : Turn P w K tg (Itr lo n) [it] it (fun i h => IsRangeIter h it (lo + (i : Nat) * 1) ((n : Int) - (i : Nat)) 1) where
  mem := by simp
  obj := fun i h st b hb => by
    have e : b = it := by simpa using hb
    subst e
    exact ⟨_, st, fun v z => by
      have z' : Data.fields _ = Data.cell v := z
      cases z'⟩
  keep := fun i h h' st k => k it (by simp) _ st
  item := by
    intro X hP hw hK hc i pins s σ H E I hf st hg
    subst hP hw hK
    obtain ⟨f0, f1, f2, f3, f4, f5⟩ := hf it (by simp)
    have W := Walks.range (prog := X.prog) (w := X.w) (I.ok.hd hc) it lo 1 n
    refine W.item i s _ _ hg st fun v h' tk hv st' kk => ?_
    obtain ⟨t, rfl⟩ := hv
    have I1 : Inv X pins σ H { s with heap := h', toks := tk } := I.turned (fun b o hb e => kk b o (by simpa using hb) e) f0 f1 f3 f4 f5
    refine ⟨_, rfl, go_of (s := { s with heap := h', toks := tk }) (n := "range_iterator") st' rfl rfl (by decide) ⟨.int (lo + i), H, I1, ⟨t, ?_⟩, ⟨rfl, rfl⟩, st', fun b hb => (hf b hb).1⟩⟩
    rw [Int.mul_one]
  done := by
    intro X hP hw hK hc i pins s σ H E I hf st hg
    subst hP hw hK
    obtain ⟨f0, f1, f2, f3, f4, f5⟩ := hf it (by simp)
    exact wpAny_pyNext_range_end (I.ok.hd hc) st (by have : n ≤ i := hg; omega) fun h' eb => ⟨rfl, I.turned (t' := s.toks) (fun b o hb e => eb b o hb e) f0 f1 f3 f4 f5⟩
  self := fun _ _ _ _ _ st h => wpAny_pyIter_rangeiter st h
end L2
namespace L2
open PySem PySem.Spec PyProof.Rows
section
variable {X : Cx} {tg : Expr}
def iList (K : PySem.W.Frag) (tl : TE) : TI := fun σ H R => tl σ H fun x H1 => ∃ a, x = .ref a ∧ (∃ xs, SqL K H1 a xs) ∧ R (Itl K a) H1
def iTup (K : PySem.W.Frag) (tl : TE) : TI := fun σ H R => tl σ H fun x H1 => ∃ a, x = .ref a ∧ (∃ xs, SqT K H1 a xs) ∧ R (Itt K a) H1
theorem pi_list {l : Expr} {tl : TE} (hl : PE X l tl) : PI X tg l (iList X.K tl) := by
  intro pins s σ H R I h
  refine thn (hl pins s σ H _ I h) fun v s1 ⟨x, H1, I1, r1, q1⟩ => ?_
  obtain ⟨a, e, ⟨xs, hq⟩, q⟩ := q1
  subst e
  cases r1
  obtain ⟨its, rv, p, hz⟩ := I1.list hq
  refine wpAny_pyIter_list p.isList ?_
  refine ⟨s1.heap.objs.size, [s1.heap.objs.size], _, _, H1, rfl, I1.kept (t' := s1.toks) fun b o e => Heap.get?_push_of_some _ e, turn_list a _, ⟨_, Heap.get?_push_size _ rfl, rfl, rfl⟩, fun b hb => ?_, q⟩
  have e : b = s1.heap.objs.size := by simpa using hb
  subst e
  exact I1.fpOk (Nat.le_refl _) (I1.hok.fresh (Nat.le_refl _))
theorem pi_tup {l : Expr} {tl : TE} (hl : PE X l tl) : PI X tg l (iTup X.K tl) := by
  intro pins s σ H R I h
  refine thn (hl pins s σ H _ I h) fun v s1 ⟨x, H1, I1, r1, q1⟩ => ?_
  obtain ⟨a, e, ⟨xs, hq⟩, q⟩ := q1
  subst e
  cases r1
  obtain ⟨its, rv, p, hz⟩ := I1.tuple hq
  refine wpAny_pyIter_tuple (show s1.heap.IsTuple a its.toArray from p) ?_
  refine ⟨s1.heap.objs.size, [s1.heap.objs.size], _, _, H1, rfl, I1.kept (t' := s1.toks) fun b o e => Heap.get?_push_of_some _ e, turn_tuple a _, ⟨_, Heap.get?_push_size _ rfl, rfl, rfl⟩, fun b hb => ?_, q⟩
  have e : b = s1.heap.objs.size := by simpa using hb
  subst e
  exact I1.fpOk (Nat.le_refl _) (I1.hok.fresh (Nat.le_refl _))
theorem range_it {pins : List (Addr × Obj)} {σ : St} {H : Hp} {s : Shared} {R : It → Hp → Prop} {E : Value → Shared → Prop} {lo hi : Int} {t u v : Tok} {tk : Nat} (I : Inv X pins σ H s) (h1 : -(2 ^ 62) ≤ lo) (h2 : lo < 2 ^ 62) (h3 : -(2 ^ 62) ≤ hi) (h4 : hi < 2 ^ 62)
    (q : R (Itr lo (hi - lo).toNat) H) : wpAny (model X.prog X.w) X.A (pyIter (.ref s.heap.objs.size)) (PIE X pins σ tg R) E { s with heap := s.heap.push { cls := .type "range", data := .fields #[.int lo t, .int hi u, .int 1 v] }, toks := tk } := by
  refine wpAny_pyIter_range (IsRange.new ..) (small_one h1 h2 h3 h4) ?_
  have I1 : Inv X pins σ H { s with heap := s.heap.push { cls := .type "range", data := .fields #[.int lo t, .int hi u, .int 1 v] }, toks := tk } := I.kept fun b o e => Heap.get?_push_of_some _ e
  refine ⟨(s.heap.push { cls := .type "range", data := .fields #[.int lo t, .int hi u, .int 1 v] }).objs.size, [(s.heap.push { cls := .type "range", data := .fields #[.int lo t, .int hi u, .int 1 v] }).objs.size], _, _, H, rfl,
    I1.kept (t' := tk) fun b o e => Heap.get?_push_of_some _ e, turn_range _ lo (hi - lo).toNat, ?_, fun b hb => ?_, q⟩
  · have e1 : lo + ((0 : Nat) : Int) * 1 = lo := by simp
    have e2 : (((hi - lo).toNat : Nat) : Int) - ((0 : Nat) : Int) = Builtin.Range.rangeSize lo hi 1 := by rw [rangeSize_one]; split <;> omega
    show IsRangeIter _ _ (lo + ((0 : Nat) : Int) * 1) ((((hi - lo).toNat : Nat) : Int) - ((0 : Nat) : Int)) 1
    rw [e1, e2]
    exact Heap.get?_push_size _ rfl
  · have e : b = (s.heap.push { cls := .type "range", data := .fields #[.int lo t, .int hi u, .int 1 v] }).objs.size := by simpa using hb
    subst e
    exact I1.fpOk (Nat.le_refl _) (I1.hok.fresh (Nat.le_refl _))
def iRng1 (ta : TA) : TI := fun σ H R => ta σ H fun vs H1 => ∃ j : Int, vs = [.int j] ∧ -(2 ^ 62) ≤ j ∧ j < 2 ^ 62 ∧ R (Itr 0 j.toNat) H1
theorem pi_range1 {a : Expr} {ta : TA} {p pos : Pos} (hg : Gl X "range") (hm : X.mg "range" = none) (ha : PA X [a] ta) (hs : starEach [a] X.env = [(false, eval a X.env)] := by rfl) : PI X tg (.Call (.Name "range" p) [a] [] pos) (iRng1 ta) := by
  intro pins s σ H R I h
  refine Call_ (ld_blt I hg hm boot_range (PyProof.Rows.callWith_type1 (thn (ha pos pins s σ H _ I h) fun us s1 ⟨vs, H1, I1, r1, q1⟩ => ?_) hs rfl))
  obtain ⟨j, e, q1, q2, q⟩ := q1
  subst e
  cases r1 with
  | cons r rr =>
    cases rr
    obtain ⟨t, rfl⟩ := r
    exact call_range_1 (range_it I1 (by omega) (by omega) q1 q2 (by simpa using q))
def tFor (wi : TI) (g : TG) (tb : TS) : TS := fun D σ H => wi σ H fun J H1 => ∃ W : Nat → Nat → St → Hp → Prop, (∃ m, W 0 m σ H1) ∧ ∀ i m σ H, W i m σ H →
  (J.stop i H ∧ D.nx σ H) ∨ (J.go i H ∧ ∃ N : St → Hp → Prop, (∀ σ' H', N σ' H' → ∃ m', m' < m ∧ W (i + 1) m' σ' H') ∧ ∀ x H', J.yld i H x H' → g x σ H' fun σ2 H2 => tb { D with nx := N, ct := N, bk := D.nx } σ2 H2)
def pinsAt (fp : List Addr) (h : Heap) : List (Addr × Obj) := fp.filterMap fun b => (h.get? b).map fun o => (b, o)
theorem mem_pinsAt {fp : List Addr} {h : Heap} {b : Addr} {o : Obj} (hb : b ∈ fp) (e : h.get? b = some o) : (b, o) ∈ pinsAt fp h := List.mem_filterMap.mpr ⟨b, hb, by rw [e]; rfl⟩
theorem of_pinsAt {fp : List Addr} {h : Heap} {p : Addr × Obj} (hp : p ∈ pinsAt fp h) : p.1 ∈ fp ∧ h.get? p.1 = some p.2 := by
  obtain ⟨b, hb, e⟩ := List.mem_filterMap.mp hp
  cases q : h.get? b with
  | none => rw [q] at e; cases e
  | some o =>
    rw [q] at e
    have e' : (b, o) = p := Option.some.inj e
    subst e'
    exact ⟨hb, q⟩
theorem Inv.pinned {pins : List (Addr × Obj)} {σ : St} {H : Hp} {s : Shared} {fp : List Addr} (I : Inv X pins σ H s) (hf : ∀ b ∈ fp, FpOk X pins H b) (ho : ∀ b ∈ fp, ∃ o, s.heap.get? b = some o ∧ ∀ v, o.data ≠ .cell v) : Inv X (pins ++ pinsAt fp s.heap) σ H s :=
  I.pins_of fun p hp => (List.mem_append.mp hp).elim (fun z => I.pin p (List.mem_append_right _ z)) fun z => by
    obtain ⟨hb, e⟩ := of_pinsAt z
    obtain ⟨f0, f1, f2, _⟩ := hf p.1 hb
    obtain ⟨o, e', d⟩ := ho p.1 hb
    rw [e] at e'; cases e'
    exact ⟨e, f0, f1, f2, d⟩
theorem Inv.unpinned {pins pl : List (Addr × Obj)} {σ : St} {H : Hp} {s : Shared} (I : Inv X (pins ++ pl) σ H s) : Inv X pins σ H s := I.pins_of fun p hp => I.pin p (List.mem_append_right _ (List.mem_append_left _ hp))
theorem ps_for {iter : Expr} {body : List Stmt} {wi : TI} {g : TG} {tb : TS} {pos : Pos} (hp : PassesOwn (model X.prog X.w) X.A X.env X.xe) (hc : X.calm = true) (hi : PI X tg iter wi) (hg : PG X tg g) (hb : PSs X body tb)
    (hs : ∀ x, foldedSetIterable iter X.env x = pure x := by intro _; rfl) : PS X (.For tg iter body [] pos) (tFor wi g tb) := by
  intro pins s σ H D I h
  refine wpAny_For (thn (hi pins s σ H _ I h) fun v s1 h1 => thn h1 fun itv s2 h2 => ?_) hs
  obtain ⟨it, fp, tn, J, H2, e, I2, T, st2, f2, W, ⟨m0, w0⟩, turn⟩ := h2
  subst e
  have stat : ∀ {H' : Hp}, (∀ b ∈ fp, H' b = none) → ∀ b ∈ fp, FpOk X pins H' b := fun hn b hb => ⟨hn b hb, (f2 b hb).2⟩
  refine codeAny_forLoop_any (fun n s' => ∃ i σ' H', Inv X pins σ' H' s' ∧ tn i s'.heap ∧ (∀ b ∈ fp, H' b = none) ∧ W i n σ' H') ?_ m0 ⟨0, σ, H2, I2, st2, fun b hb => (f2 b hb).1, w0⟩
  rintro n s3 ⟨i, σ3, H3, I3, st3, fr3, w3⟩
  rcases turn i n σ3 H3 w3 with ⟨stop, qn⟩ | ⟨go, N, hN, step⟩
  · refine wpAny_passesOwn hp (thn (T.done X rfl rfl rfl hc i pins s3 σ3 H3 X.xe I3 (stat fr3) st3 stop) fun r s4 ⟨hr, I4⟩ => ?_)
    subst hr
    exact wpAny_execs_nil ⟨σ3, H3, I4, qn⟩
  · refine wpAny_passesOwn hp (thn (T.item X rfl rfl rfl hc i pins s3 σ3 H3 X.xe I3 (stat fr3) st3 go) fun r s4 ⟨u, hr, h4⟩ => ?_)
    subst hr
    refine wpAny_passesOwn hp (thn h4 fun _ s5 ⟨x, H5, I5, r5, y5, st5, fr5⟩ => ?_)
    have I5' := I5.pinned (stat fr5) (T.obj _ _ st5)
    refine wpAny_passesOwn hp (thn (hg _ s5 σ3 H5 x u _ I5' r5 (step x H5 y5)) fun _ s6 ⟨σ6, H6, I6, q6⟩ => ?_)
    refine wpAny_passesOwn hp (thn (hb _ s6 σ6 H6 _ I6 q6) fun f s7 q7 => ?_)
    have again : ∀ {σ7 : St} {H7 : Hp}, Inv X (pins ++ pinsAt fp s5.heap) σ7 H7 s7 → N σ7 H7 → ∃ m, m < n ∧ ∃ i σ' H', Inv X pins σ' H' s7 ∧ tn i s7.heap ∧ (∀ b ∈ fp, H' b = none) ∧ W i m σ' H' := fun {σ7 H7} I7 n7 => by
      obtain ⟨m', hm, w7⟩ := hN σ7 H7 n7
      refine ⟨m', hm, i + 1, σ7, H7, I7.unpinned, T.keep _ _ _ st5 fun b hb o e => (I7.pin (b, o) (List.mem_append_right _ (List.mem_append_right _ (mem_pinsAt hb e)))).1, fun b hb => ?_, w7⟩
      obtain ⟨o, e, d⟩ := T.obj _ _ st5 b hb
      exact (I7.pin (b, o) (List.mem_append_right _ (List.mem_append_right _ (mem_pinsAt hb e)))).2.1
    cases f with
    | next => obtain ⟨σ7, H7, I7, n7⟩ := q7; exact again I7 n7
    | cont => obtain ⟨σ7, H7, I7, n7⟩ := q7; exact again I7 n7
    | brk => obtain ⟨σ7, H7, I7, q7⟩ := q7; exact ⟨σ7, H7, I7.unpinned, q7⟩
    | ret v => obtain ⟨x7, σ7, H7, I7, r7, q7⟩ := q7; exact ⟨x7, σ7, H7, I7.unpinned, r7, q7⟩
end
end L2
namespace L2
open PySem PySem.Spec PyProof.Rows
abbrev R2 := V → V → Hp → VK → Prop
def OpR (X : Cx) (f : Value → Value → Sem Value) (r : R2) : Prop :=
  ∀ (pins : List (Addr × Obj)) (s : Shared) (σ : St) (H : Hp) (x y : V) (v u : Value) (Q : VK), Inv X pins σ H s → RelV x v → RelV y u → r x y H Q →
    wpAny (model X.prog X.w) X.A (f v u) (EP X pins σ Q) X.xe s
def UnR (X : Cx) (f : Value → Sem Value) (r : V → Hp → VK → Prop) : Prop :=
  ∀ (pins : List (Addr × Obj)) (s : Shared) (σ : St) (H : Hp) (x : V) (v : Value) (Q : VK), Inv X pins σ H s → RelV x v → r x H Q →
    wpAny (model X.prog X.w) X.A (f v) (EP X pins σ Q) X.xe s
def CallR (X : Cx) (f : Value) (r : List V → Hp → VK → Prop) : Prop :=
  ∀ (pins : List (Addr × Obj)) (s : Shared) (σ : St) (H : Hp) (xs : List V) (us : List Value) (Q : VK), Inv X pins σ H s → Vals xs us → r xs H Q →
    wpAny (model X.prog X.w) X.A (call f us) (EP X pins σ Q) X.xe s
def TruR (X : Cx) (r : V → Hp → (Bool → Hp → Prop) → Prop) : Prop :=
  ∀ (pins : List (Addr × Obj)) (s : Shared) (σ : St) (H : Hp) (x : V) (v : Value) (Q : Bool → Hp → Prop), Inv X pins σ H s → RelV x v → r x H Q →
    wpAny (model X.prog X.w) X.A (truthy v) (TP X pins σ Q) X.xe s
def tOp (r : R2) (ta tb : TE) : TE := fun σ H Q => ta σ H fun x H1 => tb σ H1 fun y H2 => r x y H2 Q
def tUn (r : V → Hp → VK → Prop) (ta : TE) : TE := fun σ H Q => ta σ H fun x H1 => r x H1 Q
def rI (C : Int → Int → Prop) (g : Int → Int → V) : R2 := fun x y H Q => ∃ i j, x = .int i ∧ y = .int j ∧ C i j ∧ Q (g i j) H
def rI0 (g : Int → Int → V) : R2 := fun x y H Q => ∃ i j, x = .int i ∧ y = .int j ∧ Q (g i j) H
def rU (g : Int → V) : V → Hp → VK → Prop := fun x H Q => ∃ i, x = .int i ∧ Q (g i) H
section
variable {X : Cx} {a b c : Expr} {ta tb tc : TE} {pos : Pos}
theorem binT (ha : PE X a ta) (hb : PE X b tb) {pins : List (Addr × Obj)} {s : Shared} {σ : St} {H : Hp} {R : V → V → Hp → Prop} (I : Inv X pins σ H s)
    (h : ta σ H fun x H1 => tb σ H1 fun y H2 => R x y H2) {Q : Value → Shared → Prop} {f : Value → Value → Sem Value}
    (hf : ∀ v u s2 x y H2, Inv X pins σ H2 s2 → RelV x v → RelV y u → R x y H2 → wpAny (model X.prog X.w) X.A (f v u) Q X.xe s2) :
    wpAny (model X.prog X.w) X.A (eval a X.env) (fun v s₁ => wpAny (model X.prog X.w) X.A (eval b X.env) (fun u s₂ => wpAny (model X.prog X.w) X.A (f v u) Q X.xe s₂) X.xe s₁) X.xe s := by
  refine thn (ha pins s σ H _ I h) fun v s1 ⟨x, H1, I1, r1, q1⟩ => ?_
  refine thn (hb pins s1 σ H1 _ I1 q1) fun u s2 ⟨y, H2, I2, r2, q2⟩ => ?_
  exact hf v u s2 x y H2 I2 r1 r2 q2
theorem pe_op {op : Operator} {r : R2} (ho : OpR X (binaryOp op) r) (ha : PE X a ta) (hb : PE X b tb) : PE X (.BinOp a op b pos) (tOp r ta tb) := by
  intro pins s σ H Q I h
  exact wpAny_BinOp (binT ha hb I h fun v u s2 x y H2 I2 rx ry q => ho pins s2 σ H2 x y v u Q I2 rx ry q)
theorem pe_un {op : UnaryOp} {r : V → Hp → VK → Prop} (ho : UnR X (unaryOp op) r) (ha : PE X a ta) : PE X (.UnaryOp op a pos) (tUn r ta) := by
  intro pins s σ H Q I h
  exact UnaryOp_ (thn (ha pins s σ H _ I h) fun v s1 ⟨x, H1, I1, r1, q1⟩ => ho pins s1 σ H1 x v Q I1 r1 q1)
theorem opI {f : Value → Value → Sem Value} {C : Int → Int → Prop} {g : Int → Int → Int}
    (rule : ∀ (i j : Int) (t u : Tok) (s : Shared) (Q : Value → Shared → Prop) (E : Value → Shared → Prop), C i j → Q (.int (g i j) s.toks) { s with toks := s.toks + 1 } → wpAny (model X.prog X.w) X.A (f (.int i t) (.int j u)) Q E s) :
    OpR X f (rI C fun i j => .int (g i j)) := by
  intro pins s σ H x y v u Q I rx ry h
  obtain ⟨i, j, rfl, rfl, hc, q⟩ := h
  obtain ⟨t, rfl⟩ := rx
  obtain ⟨t', rfl⟩ := ry
  exact rule i j t t' s _ _ hc ⟨.int (g i j), H, I.tok _, ⟨_, rfl⟩, q⟩
theorem opI0 {f : Value → Value → Sem Value} {g : Int → Int → Int}
    (rule : ∀ (i j : Int) (t u : Tok) (s : Shared) (Q : Value → Shared → Prop) (E : Value → Shared → Prop), Q (.int (g i j) s.toks) { s with toks := s.toks + 1 } → wpAny (model X.prog X.w) X.A (f (.int i t) (.int j u)) Q E s) :
    OpR X f (rI0 fun i j => .int (g i j)) := by
  intro pins s σ H x y v u Q I rx ry h
  obtain ⟨i, j, rfl, rfl, q⟩ := h
  obtain ⟨t, rfl⟩ := rx
  obtain ⟨t', rfl⟩ := ry
  exact rule i j t t' s _ _ ⟨.int (g i j), H, I.tok _, ⟨_, rfl⟩, q⟩
theorem opB0 {f : Value → Value → Sem Value} {g : Int → Int → Bool}
    (rule : ∀ (i j : Int) (t u : Tok) (s : Shared) (Q : Value → Shared → Prop) (E : Value → Shared → Prop), Q (.bool (g i j)) s → wpAny (model X.prog X.w) X.A (f (.int i t) (.int j u)) Q E s) :
    OpR X f (rI0 fun i j => .bl (g i j)) := by
  intro pins s σ H x y v u Q I rx ry h
  obtain ⟨i, j, rfl, rfl, q⟩ := h
  obtain ⟨t, rfl⟩ := rx
  obtain ⟨t', rfl⟩ := ry
  exact rule i j t t' s _ _ ⟨.bl (g i j), H, I, rfl, q⟩
def CDiv (i j : Int) : Prop := 0 < j ∧ j < 1073741824
def CPow (i j : Int) : Prop := 0 ≤ j ∧ j ≤ 1000000 ∧ i.natAbs < 2 ^ 64
def CMul (i j : Int) : Prop := (-(2 ^ 64) < i ∧ i < 2 ^ 64) ∨ (-(2 ^ 64) < j ∧ j < 2 ^ 64)
theorem CMul.ok {i j : Int} (h : CMul i j) : IntMulOk i j := by
  rcases h with ⟨h1, h2⟩ | ⟨h1, h2⟩
  · exact .of_left (intBits_le_64 h1 h2)
  · exact .of_right (intBits_le_64 h1 h2)
theorem op_add : OpR X (binaryOp .Add) (rI0 fun i j => .int (i + j)) := opI0 fun _ _ _ _ _ _ _ q => add_int q
theorem op_sub : OpR X (binaryOp .Sub) (rI0 fun i j => .int (i - j)) := opI0 fun _ _ _ _ _ _ _ q => sub_int q
theorem op_mul : OpR X (binaryOp .Mult) (rI CMul fun i j => .int (i * j)) := opI fun _ _ _ _ _ _ _ hc q => mul_int q hc.ok
theorem op_fdiv : OpR X (binaryOp .FloorDiv) (rI CDiv fun i j => .int (i / j)) := opI fun i j _ _ _ _ _ hc q => by
  have h1 : (0 : Int) < j := hc.1
  have h2 : j < 1073741824 := hc.2
  exact floordiv_int (by omega) (by rw [Int.fdiv_eq_ediv_of_nonneg i (by omega)]; exact q) (.inl (PyProof.noPylong_small (by omega)))
theorem op_mod : OpR X (binaryOp .Mod) (rI (fun _ j => 0 < j) fun i j => .int (i % j)) := opI fun i j _ _ _ _ _ hc q => by
  have h1 : (0 : Int) < j := hc
  exact mod_int' (by omega) (by rw [Int.fmod_eq_emod_of_nonneg i (by omega)]; exact q)
theorem op_pow : OpR X (binaryOp .Pow) (rI CPow fun i j => .int (i ^ j.toNat)) := opI fun _ _ _ _ _ _ _ hc q => pow_int_small hc.1 hc.2.1 hc.2.2 q
theorem unI {f : Value → Sem Value} {g : Int → Int}
    (rule : ∀ (i : Int) (t : Tok) (s : Shared) (Q : Value → Shared → Prop) (E : Value → Shared → Prop), Q (.int (g i) s.toks) { s with toks := s.toks + 1 } → wpAny (model X.prog X.w) X.A (f (.int i t)) Q E s) :
    UnR X f (rU fun i => .int (g i)) := by
  intro pins s σ H x v Q I rx h
  obtain ⟨i, rfl, q⟩ := h
  obtain ⟨t, rfl⟩ := rx
  exact rule i t s _ _ ⟨.int (g i), H, I.tok _, ⟨_, rfl⟩, q⟩
theorem un_neg : UnR X (unaryOp .USub) (rU fun i => .int (-i)) := unI fun _ _ _ _ _ q => neg_int q
end
section
variable {X : Cx} {a b c : Expr} {ta tb tc : TE} {pos : Pos}
theorem fin_bl {pins : List (Addr × Obj)} {σ : St} {H : Hp} {s : Shared} {Q : VK} {k k' : Bool} (I : Inv X pins σ H s) (q : Q (.bl k) H) (e : k = k') : EP X pins σ Q (.bool k') s := by
  subst e
  exact ⟨.bl k, H, I, rfl, q⟩
theorem op_lt : OpR X (compareOp .Lt) (rI0 fun i j => .bl (decide (i < j))) := opB0 fun _ _ _ _ _ _ _ q => lt_int q
theorem op_le : OpR X (compareOp .LtE) (rI0 fun i j => .bl (decide (i ≤ j))) := opB0 fun _ _ _ _ _ _ _ q => le_int q
theorem op_gt : OpR X (compareOp .Gt) (rI0 fun i j => .bl (decide (j < i))) := opB0 fun _ _ _ _ _ _ _ q => gt_int q
theorem op_ge : OpR X (compareOp .GtE) (rI0 fun i j => .bl (decide (j ≤ i))) := opB0 fun _ _ _ _ _ _ _ q => ge_int q
theorem op_isN : OpR X (compareOp .Is) (fun x y H Q => y = .non ∧ Q (.bl (decide (x = .non))) H) := by
  intro pins s σ H x y v u Q I rx ry h
  obtain ⟨rfl, q⟩ := h
  cases ry
  refine is_none_gen (fin_bl I q ?_)
  cases x <;> first
    | (cases rx; rfl)
    | (obtain ⟨t, rfl⟩ := rx; rfl)
theorem op_notN : OpR X (compareOp .IsNot) (fun x y H Q => y = .non ∧ Q (.bl (!decide (x = .non))) H) := by
  intro pins s σ H x y v u Q I rx ry h
  obtain ⟨rfl, q⟩ := h
  cases ry
  refine isnot_none_gen (fin_bl I q ?_)
  cases x <;> first
    | (cases rx; rfl)
    | (obtain ⟨t, rfl⟩ := rx; rfl)
theorem nomark (b : Expr) {op : CmpOp} (h : op ≠ .In := by decide) (h2 : op ≠ .NotIn := by decide) : behindInMarks op b = false := by
  have e1 : (op == CmpOp.In) = false := by cases op <;> first | rfl | exact absurd rfl h
  have e2 : (op == CmpOp.NotIn) = false := by cases op <;> first | rfl | exact absurd rfl h2
  cases b <;> simp [behindInMarks, e1, e2]
theorem pe_cmpR {op : CmpOp} {r : R2} (ho : OpR X (compareOp op) r) (ha : PE X a ta) (hb : PE X b tb) (hm : behindInMarks op b = false) : PE X (.Compare a [op] [b] pos) (tOp r ta tb) := by
  intro pins s σ H Q I h
  exact wpAny_Compare1 (binT ha hb I h fun v u s2 x y H2 I2 rx ry q => ho pins s2 σ H2 x y v u Q I2 rx ry q) hm
def tTest (t : TE) : TT := fun σ H Q => t σ H fun x H' => ∃ k, x = .bl k ∧ Q k H'
theorem pt_cmpR {op : CmpOp} {r : R2} (ho : OpR X (compareOp op) r) (ha : PE X a ta) (hb : PE X b tb) (hm : behindInMarks op b = false) : PT X (.Compare a [op] [b] pos) (tTest (tOp r ta tb)) := by
  intro pins s σ H Q I h
  refine wpAny_isTrue_Compare1 (thn (ha pins s σ H _ I h) fun v s1 ⟨x, H1, I1, r1, q1⟩ => thn (hb pins s1 σ H1 _ I1 q1) fun u s2 ⟨y, H2, I2, r2, q2⟩ =>
    thn (ho pins s2 σ H2 x y v u _ I2 r1 r2 q2) fun c s3 ⟨z, H3, I3, r3, k, e, q3⟩ => ?_) hm
  subst e
  cases r3
  exact wpAny_truthy_bool ⟨H3, I3, q3⟩
def tChain (r r' : R2) (ta tb tc : TE) : TE := fun σ H Q => ta σ H fun x H1 => tb σ H1 fun y H2 => r x y H2 fun z H3 => ∃ k, z = .bl k ∧
  (if k = true then tc σ H3 fun w' H4 => r' y w' H4 Q else Q (.bl false) H3)
theorem pe_chain {op op' : CmpOp} {r r' : R2} (ho : OpR X (compareOp op) r) (ho' : OpR X (compareOp op') r') (ha : PE X a ta) (hb : PE X b tb) (hc : PE X c tc)
    (hm : lastMarks [op, op'] [b, c] = false := by with_unfolding_all rfl) : PE X (.Compare a [op, op'] [b, c] pos) (tChain r r' ta tb tc) := by
  intro pins s σ H Q I h
  refine Compare_chain (thn (ha pins s σ H _ I h) fun v s1 ⟨x, H1, I1, r1, q1⟩ => chain_link (thn (hb pins s1 σ H1 _ I1 q1) fun u s2 ⟨y, H2, I2, r2, q2⟩ =>
    thn (ho pins s2 σ H2 x y v u _ I2 r1 r2 q2) fun d s3 ⟨z, H3, I3, r3, k, e, q3⟩ => ?_)) hm
  subst e
  cases r3
  refine wpAny_truthy_bool ?_
  cases k with
  | false => exact ite_ff ⟨.bl false, H3, I3, rfl, q3⟩
  | true => exact ite_tt (chain_last (thn (hc pins s3 σ H3 _ I3 q3) fun w' s4 ⟨z', H4, I4, r4, q4⟩ => ho' pins s4 σ H4 y z' u w' Q I4 r2 r4 q4))
def TruV (K : PySem.W.Frag) (x : V) (H : Hp) (k : Bool) : Prop :=
  match x with
  | .non => k = false
  | .bl b => k = b
  | .int i => k = (i != 0)
  | .str y => y.length ≤ sizeLine ∧ k = ((y.length : Int) != 0)
  | .byt y => y.size ≤ sizeLine ∧ k = ((y.size : Int) != 0)
  | .ref p => (∃ xs, SqL K H p xs ∧ k = !xs.isEmpty) ∨ (∃ xs, SqT K H p xs ∧ k = !xs.isEmpty) ∨ ∃ kvs, H p = some (.dK kvs) ∧ k = !kvs.isEmpty
  | _ => False
theorem isEmpty_kv {κ : Type} {kvs : List (κ × V)} {vs : List (κ × Value)} (r : KV kvs vs) : (!vs.isEmpty) = !kvs.isEmpty := by
  cases r <;> rfl
theorem isEmpty_of {xs : List V} {its : List Value} (r : Vals xs its) : (!its.toArray.isEmpty) = !xs.isEmpty := by
  cases r <;> simp
theorem line63 : (sizeLine : Nat) < 2 ^ 63 := by rw [sizeLine_eq]; decide
theorem tru_ok : TruR X (fun x H Q => ∃ k, TruV X.K x H k ∧ Q k H) := by
  intro pins s σ H x v Q I rx h
  obtain ⟨k, e, q⟩ := h
  have hl := line63
  have hs : sizeLine = 16777216 := sizeLine_eq
  cases x with
  | non =>
    cases rx
    have e' : k = false := e
    subst e'
    exact truthy_none ⟨H, I, q⟩
  | bl b =>
    cases rx
    have e' : k = b := e
    subst e'
    exact wpAny_truthy_bool ⟨H, I, q⟩
  | int i =>
    obtain ⟨t, rfl⟩ := rx
    have e' : k = (i != 0) := e
    subst e'
    exact PySem.P.truthy_int ⟨H, I, q⟩
  | str y =>
    obtain ⟨t, rfl⟩ := rx
    obtain ⟨hy, e'⟩ : y.length ≤ sizeLine ∧ k = ((y.length : Int) != 0) := e
    subst e'
    exact PySem.P.truthy_str (by omega) ⟨H, I.tok _, q⟩
  | byt y =>
    obtain ⟨t, rfl⟩ := rx
    obtain ⟨hy, e'⟩ : y.size ≤ sizeLine ∧ k = ((y.size : Int) != 0) := e
    subst e'
    exact PySem.W.truthy_bytes (by omega) ⟨H, I.tok _, q⟩
  | ref p =>
    cases rx
    have e' : (∃ xs, SqL X.K H p xs ∧ k = !xs.isEmpty) ∨ (∃ xs, SqT X.K H p xs ∧ k = !xs.isEmpty) ∨ ∃ kvs, H p = some (.dK kvs) ∧ k = !kvs.isEmpty := e
    rcases e' with ⟨xs, hx, e'⟩ | ⟨xs, hx, e'⟩ | ⟨kvs, hx, e'⟩
    · subst e'
      obtain ⟨its, r, pl, hz⟩ := I.list hx
      have hlen := r.length
      exact wpAny_truthy_list pl.isList (by simp only [List.size_toArray]; omega) ⟨H, I.tok _, by rw [isEmpty_of r]; exact q⟩
    · subst e'
      obtain ⟨its, r, pl, hz⟩ := I.tuple hx
      have hlen := r.length
      exact truthy_tuple pl (by simp only [List.size_toArray]; omega) ⟨H, I.tok _, by rw [isEmpty_of r]; exact q⟩
    · subst e'
      obtain ⟨hz, hS, vs, r, m⟩ : kvs.length ≤ sizeLine ∧ (p == sysModules) = false ∧ ∃ vs, KV kvs vs ∧ s.heap.DictOf (mixKind X.prog X.w) p vs := I.hok p _ hx
      have hlen : kvs.length = vs.length := Paired.length r
      exact wpAny_truthy_dict hS m (by omega) ⟨H, I.tok _, by rw [isEmpty_kv r]; exact q⟩
  | _ => exact (show False from e).elim
theorem pt_truth (ha : PE X a ta) (he : ∀ whole, isTrue a X.env whole = (do let v ← whole; standAt a.pos; holding [v] (truthy v))) :
    PT X a (fun σ H Q => ta σ H fun x H' => ∃ k, TruV X.K x H' k ∧ Q k H') := by
  intro pins s σ H Q I h
  exact isTrue_plain (thn (ha pins s σ H _ I h) fun v s1 ⟨x, H1, I1, r1, q1⟩ => tru_ok pins s1 σ H1 x v Q I1 r1 q1) (he _)
theorem op_add_str : OpR X (binaryOp .Add) (fun x y H Q => ∃ i j, x = .str i ∧ y = .str j ∧ i.length + j.length ≤ sizeLine ∧ Q (.str (i ++ j)) H) := by
  intro pins s σ H x y v u Q I rx ry h
  obtain ⟨i, j, rfl, rfl, hz, q⟩ := h
  obtain ⟨t, rfl⟩ := rx
  obtain ⟨t', rfl⟩ := ry
  exact add_str (fun t' tk => ⟨.str (i ++ j), H, I.tok _, ⟨_, rfl⟩, q⟩) hz
theorem vals1 {x : V} {us : List Value} (r : Vals [x] us) : ∃ u, us = [u] ∧ RelV x u := by
  cases r with
  | cons r1 r2 => cases r2; exact ⟨_, rfl, r1⟩
theorem vals2 {x y : V} {us : List Value} (r : Vals [x, y] us) : ∃ u w', us = [u, w'] ∧ RelV x u ∧ RelV y w' := by
  cases r with
  | cons r1 r2 =>
    cases r2 with
    | cons r3 r4 => cases r4; exact ⟨_, _, rfl, r1, r3⟩
theorem call_max2 (hc : X.calm = true) : CallR X (.builtin "max") (fun xs H Q => ∃ i j, xs = [.int i, .int j] ∧ Q (.int (if j > i then j else i)) H) := by
  intro pins s σ H xs us Q I r h
  obtain ⟨i, j, rfl, q⟩ := h
  obtain ⟨u, w', rfl, ⟨t, rfl⟩, ⟨t', rfl⟩⟩ := vals2 r
  refine max_two_ints (I.ok.hd hc) fun h' tk k => ⟨_, H, I.kept k, ?_, q⟩
  by_cases hj : j > i
  · rw [if_pos hj, if_pos hj]; exact ⟨_, rfl⟩
  · rw [if_neg hj, if_neg hj]; exact ⟨_, rfl⟩
theorem call_min2 (hc : X.calm = true) : CallR X (.builtin "min") (fun xs H Q => ∃ i j, xs = [.int i, .int j] ∧ Q (.int (if j < i then j else i)) H) := by
  intro pins s σ H xs us Q I r h
  obtain ⟨i, j, rfl, q⟩ := h
  obtain ⟨u, w', rfl, ⟨t, rfl⟩, ⟨t', rfl⟩⟩ := vals2 r
  refine min_two_ints (I.ok.hd hc) fun h' tk k => ⟨_, H, I.kept k, ?_, q⟩
  by_cases hj : j < i
  · rw [if_pos hj, if_pos hj]; exact ⟨_, rfl⟩
  · rw [if_neg hj, if_neg hj]; exact ⟨_, rfl⟩
theorem call_int1 : CallR X (.type "int") (fun xs H Q => (∃ i, xs = [.int i] ∧ Q (.int i) H) ∨ ∃ k, xs = [.bl k] ∧ Q (.int (if k then 1 else 0)) H) := by
  intro pins s σ H xs us Q I r h
  rcases h with ⟨i, rfl, q⟩ | ⟨k, rfl, q⟩
  · obtain ⟨u, rfl, t, rfl⟩ := vals1 r
    exact call_int_int ⟨.int i, H, I, ⟨_, rfl⟩, q⟩
  · obtain ⟨u, rfl, r1⟩ := vals1 r
    cases r1
    exact call_int_bool ⟨.int (if k then 1 else 0), H, I.tok _, ⟨_, rfl⟩, q⟩
end
end L2
namespace L2
open PySem PySem.Spec PyProof.Rows
structure ObjM (h : Heap) (x dx C : Addr) (mA : Str → Option Value) : Prop where
  obj : h.get? x = some (PySem.W.instObj C dx)
  ns : h.Ns1 dx mA
  ne : dx ≠ x
section
variable {prog : Program} {w : World} {A : Around} {E : Value → Shared → Prop} {s : Shared} {K : PySem.W.Frag} {x dx C f : Addr} {mA : Str → Option Value} {name : Str} {v : Value}
end
section
variable {P : Program} {w : World} {H H' : Hp} {h h' : Heap} {a C dx : Addr} {fs fs' : List (Str × V)}
end
structure Cls (K : PySem.W.Frag) (C : Addr) : Prop where
  pg : PySem.W.plainGet K C Str.empty = true
  hd : PySem.W.hasDictIn K C = true
  po : PySem.W.plainOver K C = true
  sa : PySem.W.findIn K (.ref C) "__setattr__" = some (some (.builtin "object.__setattr__"))
structure Con (K : PySem.W.Frag) (C : Addr) (f : Str) (v : V) (u : Value) : Prop where
  at_ : PySem.W.findIn K (.ref C) f = some (some u)
  rel : RelV v u
  get : PySem.W.specialIn K u "__get__" = some none
  cp : PySem.W.copiedNames.contains f = false
structure Meth (K : PySem.W.Frag) (C : Addr) (m : Str) (f : Addr) : Prop where
  at_ : PySem.W.findIn K (.ref C) m = some (some (.ref f))
  fn : PySem.W.isFn K (.ref f) = true
  kp : PySem.W.keepIn K (.ref f) = true
section
variable {X : Cx} {pins : List (Addr × Obj)} {σ : St} {H : Hp} {s : Shared} {a C dx : Addr} {fs : List (Str × V)} {f : Str} {v : V} {A : Around} {E : Value → Shared → Prop}
end
section
variable {X : Cx} {o e value : Expr} {f : Str} {pos pos' tpos : Pos} {ta tv : TE}
end
section
variable {X : Cx} {pins : List (Addr × Obj)} {σ : St} {H : Hp} {s : Shared} {A : Around} {E : Value → Shared → Prop} {Q : Value → Shared → Prop} {c : Value} {b : Bool}
inductive TyOf (K : PySem.W.Frag) (H : Hp) : V → Value → Prop where
  | non : TyOf K H .non (.type "NoneType")
  | bl (x : Bool) : TyOf K H (.bl x) (.type "bool")
  | int (i : Int) : TyOf K H (.int i) (.type "int")
  | str (x : Str) : TyOf K H (.str x) (.type "str")
  | flt (x : UInt64) : TyOf K H (.flt x) (.type "float")
  | lst {a : Addr} {xs : List V} (e : H a = some (.lst xs)) : TyOf K H (.ref a) (.type "list")
  | frz {a : Addr} {o : Obj} {xs : List V} (e : H a = some (.frz o (.lst xs))) : TyOf K H (.ref a) (.type "list")
  | tup {a : Addr} {xs : List V} (e : H a = some (.tup xs)) : TyOf K H (.ref a) (.type "tuple")
  | dK {a : Addr} {kvs : List (Key × V)} (e : H a = some (.dK kvs)) : TyOf K H (.ref a) (.type "dict")
  | dT {a : Addr} {kvs : List (List Key × V)} (e : H a = some (.dT kvs)) : TyOf K H (.ref a) (.type "dict")
  | ins {a C dx : Addr} {fs : List (Str × V)} (e : H a = some (.ins C dx fs)) (cl : Cls K C) (ha : PySem.W.findIn K (.ref C) "__class__" = some (some (.builtin "object.__class__")))
      (hn : PySem.W.specialIn K (.builtin "object.__class__") "__get__" = some (some (.builtin "getset_descriptor.__get__"))) (htk : PySem.W.takesIn K (.builtin "object.__class__") = some true)
      (hm : PySem.W.mroIn K C (.type "object") = some true) : TyOf K H (.ref a) (.ref C)
end
end L2
namespace L2
open PySem PySem.Spec PyProof.Rows
structure Room (k : Nat) (A : Around) : Prop where
  hd : A.handled = none
  dp : A.depth + 3 * k + 5 < recursionLimit
  un : A.units + 16 * k + 200 < cLine
  gd : A.guards = some []
theorem Room.deeper {k : Nat} {A : Around} (r : Room (k + 1) A) (env : Env) : Room k (A.deeper env) :=
  ⟨r.hd, by have := r.dp; show A.depth + 1 + 3 * k + 5 < _; omega, by have := r.un; show A.units + 3 + 16 * k + 200 < _; omega, by first | exact r.gd | (simp [Around.deeper]; exact r.gd)⟩
theorem Room.depth {k : Nat} {A : Around} (r : Room k A) : A.depth < recursionLimit := by have := r.dp; omega
theorem Room.units {k : Nat} {A : Around} (r : Room k A) : A.units + 64 < cLine := by have := r.un; omega
def tNil : TA := fun _ H Q => Q [] H
def tCons (ta : TE) (tr : TA) : TA := fun σ H Q => ta σ H fun x H1 => tr σ H1 fun xs H2 => Q (x :: xs) H2
section
variable {X : Cx} {e : Expr} {es : List Expr} {te : TE} {t : TA} {pos : Pos}
theorem pa_nil : PA X [] tNil := fun _ _ _ _ H Q I h => Calls.spliced_nil ⟨[], H, I, .nil, h⟩
theorem pa_cons (ha : PE X e te) (hr : PA X es t) (hs : starEach (e :: es) X.env = (false, eval e X.env) :: starEach es X.env := by rfl) : PA X (e :: es) (tCons te t) := by
  intro pos pins s σ H Q I h
  rw [hs]
  show wpAny _ _ (spliced ((false, eval e X.env) :: backTo pos (starEach es X.env))) _ _ s
  refine Calls.spliced_cons (thn (ha pins s σ H _ I h) fun u s1 ⟨x, H1, I1, r1, q1⟩ => ?_)
  exact thn (hr pos pins s1 σ H1 _ I1 q1) fun us s2 ⟨xs, H2, I2, r2, q2⟩ => ⟨x :: xs, H2, I2, .cons r1 r2, q2⟩
def tTup (t : TA) : TE := fun σ H Q => t σ H fun xs H1 => xs.length ≤ sizeLine ∧ ∀ p, H1 p = none → Q (.ref p) (upd H1 p (.tup xs))
def tLst (t : TA) : TE := fun σ H Q => t σ H fun xs H1 => xs.length ≤ sizeLine ∧ ∀ p, H1 p = none → Q (.ref p) (upd H1 p (.lst xs))
theorem pe_tup {x1} (h : PA X es t) : PE X (.Tuple es x1 pos) (tTup t) := by
  intro pins s σ H Q I hq
  refine wpAny_Tuple_spliced (thn (h pos pins s σ H _ I hq) fun us s1 ⟨xs, H1, I1, r, z, q⟩ => ⟨by rw [← r.length]; exact z, ?_⟩)
  have hf : H1 s1.heap.objs.size = none := I1.hok.fresh (Nat.le_refl _)
  refine ⟨.ref s1.heap.objs.size, upd H1 s1.heap.objs.size (.tup xs), I1.laid (t' := s1.toks) (fun b u e => Heap.get?_push_of_some _ e) (Nat.le_refl _) ?_, rfl, q _ hf⟩
  exact ⟨z, us, r, ⟨_, Heap.get?_push_size _ rfl, rfl, _, rfl⟩⟩
theorem pe_lst (h : PA X es t) : PE X (.List es pos) (tLst t) := by
  intro pins s σ H Q I hq
  refine wpAny_List_spliced (thn (h pos pins s σ H _ I hq) fun us s1 ⟨xs, H1, I1, r, z, q⟩ => ⟨by rw [← r.length]; exact z, ?_⟩)
  have hf : H1 s1.heap.objs.size = none := I1.hok.fresh (Nat.le_refl _)
  refine ⟨.ref s1.heap.objs.size, upd H1 s1.heap.objs.size (.lst xs), I1.laid (t' := s1.toks) (fun b u e => Heap.get?_push_of_some _ e) (Nat.le_refl _) ?_, rfl, q _ hf⟩
  exact ⟨z, us, 0, r, Heap.get?_push_size _ rfl⟩
end
abbrev Sp := List V → Hp → VK → XK → Prop
abbrev CXT := List Env → Hp → Shared → XK → Value → Shared → Prop
structure Env0 (P : Program) (w : World) (K : PySem.W.Frag) (mg : Str → Option Value) (base : Heap) (A : Around) (outer : List Env) (s : Shared) (H : Hp) : Prop where
  frames : A.frames = some outer
  mod : Mod K mg base
  bs : ∀ b o, base.get? b = some o → s.heap.get? b = some o ∧ H b = none
  bsz : base.objs.size ≤ s.heap.objs.size
  funs : s.heap.FunFrames base outer
  frf : ∀ b ∈ frs outer, H b = none
  hok : HOk P w H s.heap
  bare : AllBare s.gens
def CE (outer : List Env) (P : Program) (w : World) (H : Hp) (s : Shared) (Q : VK) (u : Value) (s' : Shared) : Prop :=
  ∃ v H', s'.os = s.os ∧ AllBare s'.gens ∧ Un (frs outer) [] H H' s.heap s'.heap ∧ HOk P w H' s'.heap ∧ RelV v u ∧ Q v H'
def CR (CX : CXT) (outer : List Env) (P : Program) (w : World) (H : Hp) (s : Shared) (Q : VK) (E : XK) (r : Result) (s' : Shared) : Prop :=
  match r with
  | .ok (.ret u) => CE outer P w H s Q u s'
  | .ok _ => False
  | .error e => CX outer H s E e s'
structure FnOk (P : Program) (w : World) (K : PySem.W.Frag) (mg : Str → Option Value) (base : Heap) (CX : CXT) (k : Nat) (f : Addr) (fd : FuncData) (ps : List Str) (sp : Sp) : Prop where
  len : ∀ vs H Q E, sp vs H Q E → vs.length = ps.length
  run : ∀ (A : Around) (outer : List Env) (s : Shared) (H : Hp) (args : Args) (us : List Value) (vs : List V) (Q : VK) (E : XK), Room k A → Env0 P w K mg base A outer s H → BindsTo s fd args (ps.zip us) → Vals vs us → sp vs H Q E →
    codeAny (model P w) A (.call (.ref f) args) (CR CX outer P w H s Q E) s
theorem FnOk.imp {P : Program} {w : World} {K : PySem.W.Frag} {mg : Str → Option Value} {base : Heap} {CX : CXT} {k : Nat} {f : Addr} {fd : FuncData} {ps : List Str} {sp sp' : Sp} (F : FnOk P w K mg base CX k f fd ps sp)
    (h : ∀ vs H Q E, sp' vs H Q E → sp vs H Q E) : FnOk P w K mg base CX k f fd ps sp' :=
  ⟨fun vs H Q E q => F.len vs H Q E (h _ _ _ _ q), fun A outer s H args us vs Q E hr he hb hv hs => F.run A outer s H args us vs Q E hr he hb hv (h _ _ _ _ hs)⟩
section
variable {X : Cx} {pins : List (Addr × Obj)} {σ : St} {H : Hp} {s s' : Shared}
theorem Inv.env0 (I : Inv X pins σ H s) : Env0 X.prog X.w X.K X.mg X.base X.A X.stack s H :=
  ⟨I.ok.frames, I.ok.mod, I.bs, Nat.le_trans I.ok.bsz I.sz, I.stack, I.stkFree, I.hok, I.bare⟩
theorem Inv.after {Q : VK} {u : Value} (I : Inv X pins σ H s) (h : CE X.stack X.prog X.w H s Q u s') : EP X pins σ Q u s' := by
  obtain ⟨v, H', os, bare, un, hok, r, q⟩ := h
  obtain ⟨hh, g, d, t, os'⟩ := s'
  obtain rfl : os' = s.os := os
  exact ⟨v, H', I.call (h' := hh) (g' := g) (d' := d) (t' := t) (ch := []) un hok bare (fun b z => absurd z (by simp)), r, q⟩
end
def tCall (sp : Sp) (dvs : List V) (E : XK) (t : TA) : TE := fun σ H Q => t σ H fun vs H1 => sp (vs ++ dvs) H1 Q E
def Binds (K : PySem.W.Frag) (fd : FuncData) (ps : List Str) (ds : List Value) : Prop :=
  ∀ (s : Shared) (us : List Value), K.In s.heap → (us ++ ds).length = ps.length → BindsTo s fd ⟨us, []⟩ (ps.zip (us ++ ds))
theorem Binds.all {K : PySem.W.Frag} {fd : FuncData} {ps : List Str} (h : ∀ us : List Value, us.length = ps.length → bindArgs fd ⟨us, []⟩ = pure (ps.zip us)) : Binds K fd ps [] := fun s us _ hl => by
  rw [List.append_nil] at hl ⊢
  exact .of_eq (h us hl)
def Passes (CX : CXT) (X : Cx) (E : XK) : Prop := ∀ (pins : List (Addr × Obj)) (σ : St) (H : Hp) (s : Shared) (e : Value) (s' : Shared), Inv X pins σ H s → CX X.stack H s E e s' → X.xe e s'
section
variable {X : Cx} {CX : CXT} {k : Nat} {f C : Addr} {fd : FuncData} {ps : List Str} {sp : Sp} {dvs : List V} {ds : List Value} {E : XK} {x m : Str} {p pos apos : Pos} {e o : Expr} {es : List Expr} {ta : TE} {t : TA}
theorem run_fn {pins : List (Addr × Obj)} {σ : St} {H : Hp} {s : Shared} {Q : VK} {us : List Value} {vs : List V} (F : FnOk X.prog X.w X.K X.mg X.base CX k f fd ps sp) (hr : Room k X.A) (hb : Binds X.K fd ps ds) (hd : Vals dvs ds) (hx : Passes CX X E)
    (I : Inv X pins σ H s) (r : Vals vs us) (h : sp (vs ++ dvs) H Q E) : wpAny (model X.prog X.w) X.A (call (.ref f) us) (EP X pins σ Q) X.xe s := by
  have r2 : Vals (vs ++ dvs) (us ++ ds) := r.append hd
  have hl : (us ++ ds).length = ps.length := by rw [← r2.length]; exact F.len _ _ _ _ h
  refine wpAny_call (codeAny_mono (F.run X.A X.stack s H ⟨us, []⟩ (us ++ ds) (vs ++ dvs) Q E hr I.env0 (hb s us I.kIn hl) r2 h) fun r s' hq => ?_)
  cases r with
  | error e => exact hx pins σ H s e s' I hq
  | ok fl =>
    cases fl with
    | ret u => exact I.after hq
    | next => exact False.elim hq
    | brk => exact False.elim hq
    | cont => exact False.elim hq
theorem pe_call (F : FnOk X.prog X.w X.K X.mg X.base CX k f fd ps sp) (hr : Room k X.A) (hg : Gl X x) (hm : X.mg x = some (.ref f)) (hk : PySem.W.keepIn X.K (.ref f) = true) (hb : Binds X.K fd ps ds) (hd : Vals dvs ds) (hx : Passes CX X E)
    (ha : PA X (e :: es) t) (hdb : (x == ("__debug__" : Str)) = false := by decide) (he : starEach (e :: es) X.env = (false, eval e X.env) :: starEach es X.env := by rfl) (hpl : (backTo pos (starEach es X.env)).any (·.1) = false := by rfl) :
    PE X (.Call (.Name x p) (e :: es) [] pos) (tCall sp dvs E t) := by
  intro pins s σ H Q I h
  refine wpAny_Call_Name_kw (ld_glob I hg hm ?_ hdb)
  refine PySem.W.callWith_K (h₀ := X.base) I.ok.mod.kin hk (thn (ha pos pins s σ H _ I h) fun us s1 ⟨vs, H1, I1, r, q⟩ => ⟨I1.kIn, ?_⟩) he hpl
  exact run_fn F hr hb hd hx I1 r q
structure Mk (K : PySem.W.Frag) (C f : Addr) : Prop where
  makes : PySem.W.makesIn K C = true
  init : PySem.W.findIn K (.ref C) "__init__" = some (some (.ref f))
  fn : PySem.W.isFn K (.ref f) = true
  kp : PySem.W.keepIn K (.ref C) = true
end
section
variable {X : Cx} {CX : CXT} {k : Nat} {f C : Addr} {fd : FuncData} {ps ks : List Str} {sp : Sp} {E : XK} {x m : Str} {p pos apos kpos : Pos} {e o : Expr} {es : List Expr} {kws : List Keyword} {te ta : TE} {t tk : TA} {nm : Option Str}
structure KBinds (K : PySem.W.Frag) (fd : FuncData) (ps ks : List Str) (g : List Value → List Value → List Value) (gV : List V → List V → List V) : Prop where
  to : ∀ (s : Shared) (us ws : List Value), K.In s.heap → (g us ws).length = ps.length → BindsTo s fd ⟨us, ks.zip ws⟩ (ps.zip (g us ws))
  rel : ∀ {vs : List V} {us : List Value} {zs : List V} {ws : List Value}, Vals vs us → Vals zs ws → Vals (gV vs zs) (g us ws)
variable {g : List Value → List Value → List Value} {gV : List V → List V → List V}
end
structure FnScope (N P : List Str) (sc : Scope) : Prop where
  kind : sc.kind = .function
  co : sc.isCoroutine = false
  gen : sc.isGenerator = false
  nd : N.Nodup
  pre : N.take P.length = P
  par : ∀ x ∈ P, sc.names.lookup x = some .local ∨ sc.names.lookup x = some .cell
  nofree : ∀ y ∈ sc.names, y.2 ≠ .free
theorem bindL_out {kindOf : Str → Option NameKind} {x : Str} : ∀ {binds : List (Str × Value)} {m : Str → Option Value}, (∀ v, (x, v) ∉ binds) → bindL kindOf binds m x = m x
  | [], _, _ => rfl
  | (n, v) :: r, m, h => by
    unfold bindL
    rw [bindL_out fun w hw => h w (List.mem_cons_of_mem _ hw)]
    split
    · have : x ≠ n := by rintro rfl; exact h v List.mem_cons_self
      simp [this]
    · rfl
theorem bindC_out {kindOf : Str → Option NameKind} {x : Str} : ∀ {binds : List (Str × Value)} {m : Str → Option Value}, (∀ v, (x, v) ∉ binds) → bindC kindOf binds m x = m x
  | [], _, _ => rfl
  | (n, v) :: r, m, h => by
    unfold bindC
    rw [bindC_out fun w hw => h w (List.mem_cons_of_mem _ hw)]
    split
    · rfl
    · have : x ≠ n := by rintro rfl; exact h v List.mem_cons_self
      simp [this]
theorem bindL_get {kindOf : Str → Option NameKind} {x : Str} {v : Value} : ∀ {P : List Str} {vs : List Value} {i : Nat} {m : Str → Option Value}, P.Nodup → P[i]? = some x → vs[i]? = some v → kindOf x = some .local →
    bindL kindOf (P.zip vs) m x = some v
  | [], _, _, _, _, h, _, _ => by simp at h
  | _ :: _, [], _, _, _, _, h, _ => by simp at h
  | p :: P, w :: vs, 0, m, nd, h1, h2, hk => by
    simp at h1 h2; subst h1; subst h2
    show bindL kindOf ((p, w) :: P.zip vs) m p = _
    unfold bindL
    rw [bindL_out fun v hv => (List.nodup_cons.mp nd).1 (List.of_mem_zip hv).1, if_pos hk]
    simp
  | p :: P, w :: vs, i + 1, m, nd, h1, h2, hk => by
    show bindL kindOf ((p, w) :: P.zip vs) m x = _
    unfold bindL
    exact bindL_get (i := i) (List.nodup_cons.mp nd).2 (by simpa using h1) (by simpa using h2) hk
theorem bindC_get {kindOf : Str → Option NameKind} {x : Str} {v : Value} : ∀ {P : List Str} {vs : List Value} {i : Nat} {m : Str → Option Value}, P.Nodup → P[i]? = some x → vs[i]? = some v → kindOf x ≠ some .local →
    bindC kindOf (P.zip vs) m x = some v
  | [], _, _, _, _, h, _, _ => by simp at h
  | _ :: _, [], _, _, _, _, h, _ => by simp at h
  | p :: P, w :: vs, 0, m, nd, h1, h2, hk => by
    simp at h1 h2; subst h1; subst h2
    show bindC kindOf ((p, w) :: P.zip vs) m p = _
    unfold bindC
    rw [bindC_out fun v hv => (List.nodup_cons.mp nd).1 (List.of_mem_zip hv).1, if_neg hk]
    simp
  | p :: P, w :: vs, i + 1, m, nd, h1, h2, hk => by
    show bindC kindOf ((p, w) :: P.zip vs) m x = _
    unfold bindC
    exact bindC_get (i := i) (List.nodup_cons.mp nd).2 (by simpa using h1) (by simpa using h2) hk
def start (N : List Str) (vs : List V) : St := vs.map some ++ List.replicate (N.length - vs.length) none
def cxOf (CX : CXT) (P : Program) (w : World) (K : PySem.W.Frag) (mg : Str → Option Value) (base : Heap) (N : List Str) (qual : Str) (scope : Scope) (f : Addr) (cd : Value) (A : Around) (outer : List Env) (s : Shared) (H : Hp) (E : XK) : Cx where
  prog := P
  w := w
  K := K
  mg := mg
  base := base
  A := A.deeper (envOfC qual scope s.heap.objs.size f cd)
  N := N
  s₀ := s
  H₀ := H
  env := envOfC qual scope s.heap.objs.size f cd
  outer := outer
  stack := envOfC qual scope s.heap.objs.size f cd :: outer
  ex := []
  calm := true
  fn := fun _ => true
  pn := []
  xe := fun e s' => wpAny (model P w) (A.deeper (envOfC qual scope s.heap.objs.size f cd)) (leaving (envOfC qual scope s.heap.objs.size f cd) e) (fun _ s'' => CX outer H s E e s'') (fun e' s'' => CX outer H s E e' s'') s'
theorem cell_has {sc : Scope} {n : Nat} {x : Str} (h : sc.names.lookup x = some .cell) : ∃ c, (cellsFrom n sc.names []).lookup x = some c := by
  have q := PySem.W.cellsFrom_some sc.names n [] (.inl h)
  exact Option.isSome_iff_exists.mp q
theorem inv_start {CX : CXT} {P : Program} {w : World} {K : PySem.W.Frag} {mg : Str → Option Value} {base : Heap} {N ps : List Str} {qual : Str} {scope : Scope} {f : Addr} {cd : Value} {A : Around} {outer : List Env} {s s1 : Shared} {H : Hp} {E : XK} {us : List Value} {vs : List V}
    (S : FnScope N ps scope) (hd : A.handled = none) (e0 : Env0 P w K mg base A outer s H) (hl : vs.length = ps.length) (r : Vals vs us)
    (x : InCallC s s.heap.objs.size (bindL (envOfC qual scope s.heap.objs.size f cd).kindOf (ps.zip us) fun _ => none) (cellsFrom (s.heap.objs.size + 1) scope.names []) (bindC (envOfC qual scope s.heap.objs.size f cd).kindOf (ps.zip us) fun _ => none) s1) :
    Inv (cxOf CX P w K mg base N qual scope f cd A outer s H E) [] (start N vs) H s1 := by
  have hpl : ps.length ≤ N.length := by have := congrArg List.length S.pre; rw [List.length_take] at this; omega
  obtain ⟨h1, tk, rfl, hk⟩ := x.done
  have noA : ∀ b : Addr, b ∉ (cxOf CX P w K mg base N qual scope f cd A outer s H E).ex := fun b z => absurd (show b ∈ ([] : List Addr) from z) (by simp)
  refine ⟨⟨e0.mod, S.kind, rfl, rfl, Nat.le_refl _, fun y z c h1 h2 => ?_, fun y hy => ?_, fun y c _ h => ?_, fun _ => hd, Around.frames_deeper e0.frames, .inr ⟨rfl, rfl⟩, fun b z => absurd z (noA b), e0.bs, e0.bsz, fun b _ _ => noA b, fun b z => absurd z (noA b), e0.funs, e0.frf⟩,
    rfl, e0.bare, Un.kept hk, ⟨_, x.toInCall.ns, fun i y v h1 h2 h3 => ?_⟩, fun y c h => ⟨_, x.cell y c h⟩, e0.hok.fresh (Nat.le_refl _), fun y c h => ?_, fun p hp => absurd (show p ∈ ([] : List (Addr × Obj)) from hp) (by simp), e0.hok.kept hk, ?_⟩
  · exact name_of_addr x.apart (PySem.mem_of_lookup h1) (PySem.mem_of_lookup h2)
  · have hy : scope.names.lookup y = some .cell ∨ scope.names.lookup y = some .free := hy
    rcases hy with hy | hy
    · exact cell_has hy
    · exact absurd rfl (S.nofree _ (PySem.mem_of_lookup hy))
  · exact Nat.le_of_lt (x.above y c (PySem.mem_of_lookup h))
  · have hi : i < vs.length := by
      unfold start at h2
      by_cases hi : i < vs.length
      · exact hi
      · rw [List.getElem?_append_right (by simpa using hi)] at h2
        rw [List.getElem?_replicate] at h2
        split at h2 <;> cases h2
    have ha : vs[i]? = some v := by
      unfold start at h2
      rw [List.getElem?_append_left (by simpa using hi), List.getElem?_map] at h2
      cases e : vs[i]? with
      | none => rw [e] at h2; cases h2
      | some a => rw [e] at h2; cases h2; rfl
    obtain ⟨u, hu, rv⟩ := r.get ha
    have hp : ps[i]? = some y := by
      rw [← S.pre, List.getElem?_take_of_lt (by omega)]; exact h1
    have ndP : ps.Nodup := by rw [← S.pre]; exact S.nd.sublist (List.take_sublist _ _)
    refine ⟨u, rv, ?_⟩
    rcases S.par y (List.mem_of_getElem? hp) with k | k
    · exact .inl ⟨k, bindL_get ndP hp hu k⟩
    · obtain ⟨c, e⟩ := cell_has (n := s.heap.objs.size + 1) k
      refine .inr ⟨.inl k, c, e, ?_⟩
      have q := x.cell y c e
      rw [bindC_get ndP hp hu (by show scope.names.lookup y ≠ _; rw [k]; decide)] at q
      exact q
  · exact e0.hok.fresh (Nat.le_of_lt (x.above y c (PySem.mem_of_lookup h)))
  · unfold start
    show _ = N.length
    rw [List.length_append, List.length_map, List.length_replicate]
    omega
theorem fn_of {CX : CXT} {P : Program} {w : World} {K : PySem.W.Frag} {mg : Str → Option Value} {base : Heap} {k : Nat} {f : Addr} {name qual : Str} {params : Arguments} {body : List Stmt} {scope : Scope} {dV kV doc pm cdv ct oc : Value} {an od : Option Addr}
    {osl : Array (Option Value)} {N ps : List Str} {sp : Sp} (lk : K.lookup f = some ⟨oc, od, .func (PySem.W.fnOf name qual params body scope dV kV doc pm an cdv ct), osl⟩) (hcd : PySem.W.codeIn K cdv qual = true) (S : FnScope N ps scope)
    (len : ∀ vs H Q E, sp vs H Q E → vs.length = ps.length)
    (hbody : ∀ (A : Around) (outer : List Env) (s : Shared) (H : Hp) (vs : List V) (Q : VK) (E : XK), Room k (A.deeper (envOfC qual scope s.heap.objs.size f cdv)) → sp vs H Q E →
      ∃ t, PSs (cxOf CX P w K mg base N qual scope f cdv A outer s H E) body t ∧ t { nx := fun _ H' => Q .non H', rt := Q } (start N vs) H) :
    FnOk P w K mg base CX (k + 1) f (PySem.W.fnOf name qual params body scope dV kV doc pm an cdv ct) ps sp := by
  refine ⟨len, fun A outer s H args us vs Q E hr e0 hb r hsp => ?_⟩
  have hl := len _ _ _ _ hsp
  have KX : K.In s.heap := e0.mod.kin.keeps fun b o e => (e0.bs b o e).1
  have lim : s.heap.NoLimit := e0.mod.nolimit.keeps fun b o e => (e0.bs b o e).1
  have hkind : ∀ y ∈ ps.zip us, scope.names.lookup y.1 = some .local ∨ (scope.names.lookup y.1 = some .cell ∧ ((cellsFrom (s.heap.objs.size + 1) scope.names []).lookup y.1).isSome = true) := fun ⟨n, v⟩ hy => by
    rcases S.par n (List.of_mem_zip hy).1 with q | q
    · exact .inl q
    · exact .inr ⟨q, PySem.W.cellsFrom_some _ _ _ (.inl q)⟩
  refine codeAny_call_function hr.depth (KX _ _ lk) rfl S.co S.gen rfl (PySem.W.codeRec_of KX hcd) (hb _ _ _ _ ?_)
  refine wpAny_newFunctionEnv_cells S.kind hkind fun env he s1 x => ?_
  subst he
  refine ⟨lim.keeps x.toInCall.keep, codeAny_func ?_⟩
  obtain ⟨t, ht, hq⟩ := hbody A outer s H vs Q E (hr.deeper _) hsp
  have I : Inv (cxOf CX P w K mg base N qual scope f cdv A outer s H E) [] (start N vs) H s1 := inv_start S hr.hd e0 hl r x
  refine wpAny_mono (ht [] s1 (start N vs) H _ I hq) (fun fl s' hs => ?_) fun e s' hs => hs
  have fin : ∀ {σ' : St} {H' : Hp} {v : V} {u : Value}, Inv (cxOf CX P w K mg base N qual scope f cdv A outer s H E) [] σ' H' s' → RelV v u → Q v H' → CE outer P w H s Q u s' :=
    fun {σ' H' v u} J rv q => ⟨v, H', J.os, J.bare, J.base, J.hok, rv, q⟩
  cases fl with
  | ret u =>
    obtain ⟨v, σ', H', J, rv, q⟩ := hs
    exact fin J rv q
  | next =>
    obtain ⟨σ', H', J, q⟩ := hs
    exact fin (v := V.non) (u := Value.none) J rfl q
  | brk =>
    obtain ⟨_, _, _, q⟩ := hs
    exact False.elim q
  | cont =>
    obtain ⟨_, _, _, q⟩ := hs
    exact False.elim q
end L2
namespace L2
open PySem PySem.Spec PyProof.Rows
section
variable {X : Cx} {x : Str} {p pos : Pos} {e : Expr} {es : List Expr} {t : TA} {id T : String} {r : List V → Hp → VK → Prop}
def tCB (r : List V → Hp → VK → Prop) (t : TA) : TE := fun σ H Q => t σ H fun vs H1 => r vs H1 Q
theorem pe_callB (hc : CallR X (.builtin id) r) (hg : Gl X x) (hm : X.mg x = none) (hv : bootBuiltins x = some (.builtin id)) (ha : PA X (e :: es) t) (hn : x ≠ "__name__" := by decide) (hdb : (x == ("__debug__" : Str)) = false := by decide)
    (he : starEach (e :: es) X.env = (false, eval e X.env) :: starEach es X.env := by rfl) (hpl : (backTo pos (starEach es X.env)).any (·.1) = false := by rfl) : PE X (.Call (.Name x p) (e :: es) [] pos) (tCB r t) := by
  intro pins s σ H Q I h
  refine wpAny_Call_Name_kw (ld_blt I hg hm hv ?_ hn hdb)
  exact PyProof.Rows.callWith_builtin1 (thn (ha pos pins s σ H _ I h) fun us s1 ⟨vs, H1, I1, r1, q1⟩ => hc pins s1 σ H1 vs us Q I1 r1 q1) he hpl
theorem pe_callTy (hc : CallR X (.type T) r) (hg : Gl X x) (hm : X.mg x = none) (hv : bootBuiltins x = some (.type T)) (ha : PA X (e :: es) t) (hn : x ≠ "__name__" := by decide) (hdb : (x == ("__debug__" : Str)) = false := by decide)
    (he : starEach (e :: es) X.env = (false, eval e X.env) :: starEach es X.env := by rfl) (hpl : (backTo pos (starEach es X.env)).any (·.1) = false := by rfl) : PE X (.Call (.Name x p) (e :: es) [] pos) (tCB r t) := by
  intro pins s σ H Q I h
  refine wpAny_Call_Name_kw (ld_blt I hg hm hv ?_ hn hdb)
  exact PyProof.Rows.callWith_type1 (thn (ha pos pins s σ H _ I h) fun us s1 ⟨vs, H1, I1, r1, q1⟩ => hc pins s1 σ H1 vs us Q I1 r1 q1) he hpl
end
end L2
namespace HT
open PySem PyProof.Rows
section
open PySem.SeqAt
open PySem.AutoSeq1 (wpAny_loadPart')
open PySem.MeetsSeq PySem.MeetsSeq2 PySem.MeetsSeq3
end
section
variable {prog : Program} {w : World} {A : Around} {E : Value → Shared → Prop} {s : Shared}
theorem cat_tup {t b : Addr} {vs ws : List Value} {Q : Value → Shared → Prop} (ht : IsTup s.heap t vs.toArray) (hb : IsTup s.heap b ws.toArray) (hv : vs ≠ [])
    (h1 : ws = [] → Q (.ref t) s) (h2 : ws ≠ [] → Q (.ref s.heap.objs.size) { s with heap := s.heap.push { cls := .type "tuple", data := .seq (vs ++ ws).toArray } })
    (hsz : vs.length + ws.length ≤ sizeLine) : wpAny (model prog w) A (binaryOp .Add (.ref t) (.ref b)) Q E s := by
  obtain ⟨⟨cls, dd, data, sl⟩, ho, hc, n, hd⟩ := id ht
  obtain ⟨⟨cls2, dd2, data2, sl2⟩, ho2, hc2, n2, hd2⟩ := id hb
  simp only at hc hd hc2 hd2
  subst hc hd hc2 hd2
  have e : vs.toArray ++ ws.toArray = (vs ++ ws).toArray := by simp
  by_cases hw : ws = []
  · exact concat_meets ⟨_, ho, rfl⟩ ⟨_, ho2, rfl⟩ noFill_tuple_add seq_tuple_add PySem.F.slot_tuple_add PySem.F.entry_tuple_add (PySem.F.args_tuple_add_2 _ _)
      (tuple_addW1 t b vs.toArray ws.toArray n n2 dd dd2 sl sl2 (by simpa using hv) (by simp [hw])) ⟨ho, ho2, h1 hw⟩
  · refine concat_meets ⟨_, ho, rfl⟩ ⟨_, ho2, rfl⟩ noFill_tuple_add seq_tuple_add PySem.F.slot_tuple_add PySem.F.entry_tuple_add (PySem.F.args_tuple_add_2 _ _)
      (tuple_addW2 t b vs.toArray ws.toArray n n2 dd dd2 sl sl2 (by simpa using hv) (by simpa using hw) (by rw [List.size_toArray, List.size_toArray]; exact hsz)) ⟨ho, ho2, ?_⟩
    rw [e]
    exact h2 hw
def sIx (n d : Nat) : Option Int → Nat
  | none => d
  | some v => if v < 0 then (v + (n : Int)).toNat else min v.toNat n
theorem sIx_none (n d : Nat) : sIx n d none = d := rfl
theorem sIx_nat (n d k : Nat) : sIx n d (some (k : Int)) = min k n := by
  show (if (k : Int) < 0 then ((k : Int) + (n : Int)).toNat else min (k : Int).toNat n) = min k n
  rw [if_neg (by omega), Int.toNat_natCast]
theorem sIx_le (n d : Nat) (hd : d ≤ n) (o : Option Int) : sIx n d o ≤ n := by
  cases o with
  | none => exact hd
  | some v =>
    show (if v < 0 then (v + (n : Int)).toNat else min v.toNat n) ≤ n
    by_cases hv : v < 0
    · rw [if_pos hv]; omega
    · rw [if_neg hv]; exact Nat.min_le_right _ _
theorem clip_eq (v : Int) (n d : Nat) : (if v < 0 then max (v + (n : Int)) 0 else min v (n : Int)) = ((sIx n d (some v) : Nat) : Int) := by
  show (if v < 0 then max (v + (n : Int)) 0 else min v (n : Int)) = (((if v < 0 then (v + (n : Int)).toNat else min v.toNat n) : Nat) : Int)
  by_cases hv : v < 0
  · simp only [if_pos hv]; omega
  · simp only [if_neg hv]; omega
theorem adjust_gen (lo hi : Option Int) (n : Nat) : Builtin.Slice.sliceAdjust lo hi 1 (n : Int) = (((sIx n 0 lo : Nat) : Int), ((sIx n n hi : Nat) : Int)) := by
  have h1 : ¬ ((1 : Int) < 0) := by omega
  unfold Builtin.Slice.sliceAdjust
  simp only [h1, if_false]
  refine Prod.ext ?_ ?_
  · cases lo with
    | none => rfl
    | some v => exact clip_eq v n 0
  · cases hi with
    | none => rfl
    | some v => exact clip_eq v n n
theorem places_gen (i j : Nat) : Builtin.Slice.slicePlaces (i : Int) (j : Int) 1 = j - i := by
  unfold Builtin.Slice.slicePlaces
  have h1 : (1 : Int) > 0 := by omega
  simp only [h1, if_true, Int.ediv_one]
  split <;> omega
theorem slicePart_ {v : Value} {o : Option Int} {Q : Option Int → Shared → Prop} (p : IsPart v o) (h : Q o s) : wpAny (model prog w) A (Builtin.Slice.slicePartIndex v) Q E s := by
  cases p with
  | none => exact slicePart_none h
  | int i t => exact slicePart_int h
theorem sliceApplied_gen {sl : Addr} {vl vu : Value} {lo hi : Option Int} {n : Nat} {Q : Int × Int × Nat → Shared → Prop} (hs : s.heap.IsSliceOf sl vl vu .none) (pl : IsPart vl lo) (pu : IsPart vu hi)
    (h : Q (((sIx n 0 lo : Nat) : Int), 1, sIx n n hi - sIx n 0 lo) s) : wpAny (model prog w) A (Builtin.Slice.sliceApplied (.ref sl) (pure (n : Int))) Q E s := by
  obtain ⟨os, hos, hcs, hds⟩ := id hs
  unfold Builtin.Slice.sliceApplied Builtin.Slice.sliceFields
  refine wpAny_bind (wpAny_bind (wpAny_field hos hds (x := vl) rfl (wpAny_bind (wpAny_field hos hds (x := vu) rfl (wpAny_bind (wpAny_field hos hds (x := .none) rfl (wpAny_pure ?_)))))))
  refine wpAny_bind (slicePart_none ?_)
  show wpAny _ _ (if ((1 : Int) == 0) = true then _ else _) _ _ s
  rw [if_neg (by decide)]
  refine wpAny_bind (slicePart_ pl (wpAny_bind (slicePart_ pu (wpAny_bind (wpAny_pure ?_)))))
  show wpAny _ _ (match Builtin.Slice.sliceAdjust lo hi 1 (n : Int) with | (lo, hi) => pure (lo, (1 : Int), Builtin.Slice.slicePlaces lo hi 1)) _ _ s
  rw [adjust_gen lo hi n]
  show wpAny _ _ (pure (((sIx n 0 lo : Nat) : Int), (1 : Int), Builtin.Slice.slicePlaces ((sIx n 0 lo : Nat) : Int) ((sIx n n hi : Nat) : Int) 1)) _ _ s
  rw [places_gen]
  exact wpAny_pure h
theorem pick_gen (xs : Array Value) (i k : Nat) : ((List.range k).filterMap fun (m : Nat) => xs[((i : Int) + (m : Int) * 1).toNat]?).toArray = ((xs.toList.drop i).take k).toArray := by
  have e : (fun (m : Nat) => xs[((i : Int) + (m : Int) * 1).toNat]?) = fun m => xs[i + m]? := by
    funext m
    have : ((i : Int) + (m : Int) * 1).toNat = i + m := by omega
    rw [this]
  rw [e]
  have := pick_run xs i k
  rw [List.filterMap_map] at this
  have e2 : ((fun x => xs[x]?) ∘ fun x => i + x) = fun m => xs[i + m]? := rfl
  rw [e2] at this
  rw [this]
theorem getItem_tuple_cut {t sl : Addr} {items : Array Value} {vl vu : Value} {lo hi : Option Int} {Q : Value → Shared → Prop} (ht : IsTup s.heap t items) (hs : s.heap.IsSliceOf sl vl vu .none) (pl : IsPart vl lo) (pu : IsPart vu hi)
    (hw : ¬ (sIx items.size 0 lo = 0 ∧ sIx items.size items.size hi = items.size))
    (h : Q (.ref s.heap.objs.size) { s with heap := s.heap.push { cls := .type "tuple", data := .seq ((items.toList.drop (sIx items.size 0 lo)).take (sIx items.size items.size hi - sIx items.size 0 lo)).toArray } })
    (hsz : items.size ≤ sizeLine) : wpAny (model prog w) A (getItem (.ref t) (.ref sl)) Q E s := by
  have htake : sizeOk (.seq ((items.toList.drop (sIx items.size 0 lo)).take (sIx items.size items.size hi - sIx items.size 0 lo)).toArray) := by
    show ((items.toList.drop (sIx items.size 0 lo)).take (sIx items.size items.size hi - sIx items.size 0 lo)).toArray.size ≤ sizeLine
    rw [List.size_toArray, List.length_take, List.length_drop, Array.length_toList]
    omega
  have hj : sIx items.size items.size hi ≤ items.size := sIx_le _ _ (Nat.le_refl _) hi
  obtain ⟨os, hos, hcs, hds⟩ := id hs
  have hTs : s.TypeIs (.ref sl) "slice" := ⟨os, hos, hcs⟩
  unfold getItem
  try with_reducible refine wpAny_holding ?_
  first | refine wpAny_bind (wpAny_pure ?_) | skip
  refine wpAny_bind (wpAny_sequenceKey ht.typeIs (by decide) ?_)
  refine wpAny_bind (wpAny_callSpecial?_slot (name := Str.ofString "__getitem__") ht.typeIs PyProof.Rows.slot_tuple_getitem
    (wpAny_call_entry PyProof.Rows.slot_tuple_getitem ht.typeIs entry_tuple_getitem ?_ (args_tuple_getitem _ _)))
  show wpAny _ _ (Builtin.Tuple.tupleItemsOf (.ref t) >>= _) _ _ s
  refine wpAny_bind (tupleItemsOf_ ht ?_)
  refine wpAny_bind (wpAny_typeOf hTs ?_)
  rw [if_pos (by decide)]
  refine wpAny_bind (sliceApplied_gen hs pl pu ?_)
  have hno : ¬ ((((sIx items.size 0 lo : Nat) : Int) == 0 && (1 : Int) == 1 && (sIx items.size items.size hi - sIx items.size 0 lo) == items.size) = true) := by
    intro q
    rw [Bool.and_eq_true, Bool.and_eq_true] at q
    have q1 : ((sIx items.size 0 lo : Nat) : Int) = 0 := eq_of_beq q.1.1
    have q2 : sIx items.size items.size hi - sIx items.size 0 lo = items.size := eq_of_beq q.2
    exact hw ⟨by omega, by omega⟩
  show wpAny _ _ (if (((sIx items.size 0 lo : Nat) : Int) == 0 && (1 : Int) == 1 && (sIx items.size items.size hi - sIx items.size 0 lo) == items.size) = true then _ else _) _ _ s
  rw [if_neg hno, pick_gen]
  first
    | exact wpAny_bind (m := Builtin.Tuple.tupleExact _) (wpAny_newObj_type (wpAny_pure ⟨_, rfl, wpAny_pure h⟩) htake)
    | exact wpAny_bind (m := Builtin.Tuple.tupleExact _) (wpAny_newObj_type (wpAny_bind (wpAny_pure (wpAny_pure ⟨_, rfl, wpAny_pure h⟩))) htake)
    | exact wpAny_bind (wpAny_bind (m := Builtin.Tuple.tupleExact _) (wpAny_newObj_type (wpAny_pure (wpAny_pure ⟨_, rfl, wpAny_pure h⟩)) htake))
    | exact wpAny_bind (wpAny_bind (m := Builtin.Tuple.tupleExact _) (wpAny_newObj_type (wpAny_pure ⟨_, rfl, wpAny_pure h⟩) htake))
end
end HT
namespace L2
open PySem PySem.Spec PyProof.Rows
abbrev TO := St → Hp → (Option Int → Hp → Prop) → Prop
def PO (X : Cx) (e : Option Expr) (t : TO) : Prop :=
  ∀ (pins : List (Addr × Obj)) (s : Shared) (σ : St) (H : Hp) (Q : Option Int → Hp → Prop), Inv X pins σ H s → t σ H Q →
    wpAny (model X.prog X.w) X.A (evalPart e X.env) (fun u s' => ∃ o H', Inv X pins σ H' s' ∧ IsPart u o ∧ Q o H') X.xe s
def tNoPart : TO := fun _ H Q => Q none H
def tPart (t : TE) : TO := fun σ H Q => t σ H fun x H1 => ∃ i, x = .int i ∧ Q (some i) H1
section
variable {X : Cx} {e : Expr} {te : TE} {lo hi : Option Expr} {tl th : TO} {pos p2 : Pos}
theorem po_none : PO X none tNoPart := by
  intro pins s σ H Q I h
  rw [evalPart_none]
  exact wpAny_pure ⟨none, H, I, .none, h⟩
theorem po_some (h : PE X e te) : PO X (some e) (tPart te) := by
  intro pins s σ H Q I hw
  rw [evalPart_some]
  refine thn (h pins s σ H _ I hw) fun u s1 ⟨x, H1, I1, r1, q1⟩ => ?_
  obtain ⟨i, rfl, q⟩ := q1
  obtain ⟨t, rfl⟩ := r1
  exact ⟨some i, H1, I1, .int i t, q⟩
def SlR (X : Cx) (r : V → Option Int → Option Int → Hp → VK → Prop) : Prop :=
  ∀ (pins : List (Addr × Obj)) (s : Shared) (σ : St) (H : Hp) (x : V) (v vl vu : Value) (lo hi : Option Int) (sl : Addr) (Q : VK), Inv X pins σ H s → RelV x v → s.heap.IsSliceOf sl vl vu .none → IsPart vl lo → IsPart vu hi → r x lo hi H Q →
    ∃ T id, typeLookup (.type T) "__getitem__" = pure (some (.builtin id)) ∧ s.TypeIs v T ∧ wpAny (model X.prog X.w) X.A (getItem v (.ref sl)) (EP X pins σ Q) X.xe s
theorem SlR.or {r r' : V → Option Int → Option Int → Hp → VK → Prop} (h : SlR X r) (h' : SlR X r') : SlR X (fun x lo hi H Q => r x lo hi H Q ∨ r' x lo hi H Q) := by
  intro pins s σ H x v vl vu lo hi sl Q I rx hs pl pu q
  rcases q with q | q
  · exact h pins s σ H x v vl vu lo hi sl Q I rx hs pl pu q
  · exact h' pins s σ H x v vl vu lo hi sl Q I rx hs pl pu q
def tSl (r : V → Option Int → Option Int → Hp → VK → Prop) (te : TE) (tl th : TO) : TE := fun σ H Q => te σ H fun x H1 => tl σ H1 fun l H2 => th σ H2 fun u H3 => r x l u H3 Q
theorem pe_slice {r : V → Option Int → Option Int → Hp → VK → Prop} (hr : SlR X r) (he : PE X e te) (hl : PO X lo tl) (hu : PO X hi th) : PE X (.Subscript e (.Slice lo hi none p2) pos) (tSl r te tl th) := by
  intro pins s σ H Q I h
  refine Subscript_ (thn (he pins s σ H _ I h) fun v s1 ⟨x, H1, I1, r1, q1⟩ => ?_)
  refine wpAny_Slice (thn (hl pins s1 σ H1 _ I1 q1) fun vl s2 ⟨l, H2, I2, pl, q2⟩ => thn (hu pins s2 σ H2 _ I2 q2) fun vu s3 ⟨u, H3, I3, pu, q3⟩ => ?_)
  rw [evalPart_none]
  refine wpAny_pure ?_
  have I4 : Inv X pins σ H3 { s3 with heap := s3.heap.push { cls := .type "slice", data := .fields #[vl, vu, .none] } } := I3.kept (t' := s3.toks) fun b ob q => Heap.get?_push_of_some _ q
  obtain ⟨T, id, hT, ht, hg⟩ := hr pins { s3 with heap := s3.heap.push { cls := .type "slice", data := .fields #[vl, vu, .none] } } σ H3 x v vl vu l u s3.heap.objs.size Q I4 r1 (Heap.IsSliceOf.new ..) pl pu q3
  show wpAny (model X.prog X.w) X.A (subscriptTail e (.Slice lo hi none p2) v (.ref s3.heap.objs.size)) (EP X pins σ Q) X.xe { s3 with heap := s3.heap.push { cls := .type "slice", data := .fields #[vl, vu, .none] } }
  exact tail_any (ops := [.ref s3.heap.objs.size, v]) ht hT hg (by with_unfolding_all rfl)
def cutV (xs : List V) (lo hi : Option Int) : List V := (xs.drop (HT.sIx xs.length 0 lo)).take (HT.sIx xs.length xs.length hi - HT.sIx xs.length 0 lo)
theorem cutV_length (xs : List V) (lo hi : Option Int) : (cutV xs lo hi).length ≤ xs.length := by
  unfold cutV
  rw [List.length_take, List.length_drop]
  omega
def rSlT (K : PySem.W.Frag) : V → Option Int → Option Int → Hp → VK → Prop := fun x lo hi H Q => ∃ a xs, x = .ref a ∧ SqT K H a xs ∧
  ¬ (HT.sIx xs.length 0 lo = 0 ∧ HT.sIx xs.length xs.length hi = xs.length) ∧ ∀ p, H p = none → Q (.ref p) (upd H p (.tup (cutV xs lo hi)))
theorem sl_tup : SlR X (rSlT X.K) := by
  intro pins s σ H x v vl vu lo hi sl Q I rx hs pl pu h
  obtain ⟨a, xs, rfl, hx, hw, q⟩ := h
  cases rx
  obtain ⟨its, r, ht, hz⟩ := I.tuple hx
  have hlen : its.toArray.size = xs.length := by rw [List.size_toArray]; exact r.length.symm
  refine ⟨"tuple", _, PyProof.Rows.slot_tuple_getitem.lookup, ht.typeIs, ?_⟩
  refine HT.getItem_tuple_cut ht hs pl pu (by rw [hlen]; exact hw) ?_ (by rw [hlen]; exact hz)
  rw [hlen]
  refine ⟨.ref s.heap.objs.size, _, I.laid (t' := s.toks) (o := .tup (cutV xs lo hi)) (fun b ob q => Heap.get?_push_of_some _ q) (Nat.le_refl _) ?_, rfl, q _ (I.hok.fresh (Nat.le_refl _))⟩
  exact ⟨Nat.le_trans (cutV_length xs lo hi) hz, _, (r.drop (HT.sIx xs.length 0 lo)).take (HT.sIx xs.length xs.length hi - HT.sIx xs.length 0 lo), IsTup.new _ _⟩
def rCatT (K : PySem.W.Frag) : R2 := fun x y H Q => ∃ a b xs ys, x = .ref a ∧ y = .ref b ∧ SqT K H a xs ∧ SqT K H b ys ∧ xs ≠ [] ∧ xs.length + ys.length ≤ sizeLine ∧
  (ys = [] → Q (.ref a) H) ∧ (ys ≠ [] → ∀ p, H p = none → Q (.ref p) (upd H p (.tup (xs ++ ys))))
theorem Vals.nil_iff {xs : List V} {us : List Value} (r : Vals xs us) : us = [] ↔ xs = [] := by
  cases r with
  | nil => simp
  | cons _ _ => simp
theorem op_catT : OpR X (binaryOp .Add) (rCatT X.K) := by
  intro pins s σ H x y v u Q I rx ry h
  obtain ⟨a, b, xs, ys, rfl, rfl, ha, hb, hx, hz, q1, q2⟩ := h
  cases rx
  cases ry
  obtain ⟨its, r1, p1, _⟩ := I.tuple ha
  obtain ⟨its2, r2, p2, _⟩ := I.tuple hb
  refine HT.cat_tup p1 p2 (fun z => hx (r1.nil_iff.mp z)) (fun z => ⟨.ref a, H, I, rfl, q1 (r2.nil_iff.mp z)⟩) (fun z => ?_) (by rw [← r1.length, ← r2.length]; exact hz)
  refine ⟨.ref s.heap.objs.size, _, I.laid (t' := s.toks) (o := .tup (xs ++ ys)) (fun b ob q => Heap.get?_push_of_some _ q) (Nat.le_refl _) ?_, rfl, q2 (fun w => z (r2.nil_iff.mpr w)) _ (I.hok.fresh (Nat.le_refl _))⟩
  exact ⟨by rw [List.length_append]; exact hz, _, r1.append r2, IsTup.new _ _⟩
end
end L2
namespace L2
open PySem PySem.Spec PyProof.Rows
def ixN (n : Nat) (i : Int) : Option Nat := if 0 ≤ i then (if i < n then some i.toNat else none) else if -(n : Int) ≤ i then some (i + n).toNat else none
def atI {α : Type} (xs : List α) (i : Int) : Option α := (ixN xs.length i).bind fun j => xs[j]?
theorem ixN_seq {n : Nat} {i : Int} {j : Nat} (h : ixN n i = some j) : seqIndex? i n = some j ∧ j < n ∧ -(n : Int) ≤ i ∧ i < n := by
  unfold ixN at h
  by_cases h0 : 0 ≤ i
  · rw [if_pos h0] at h
    by_cases h1 : i < n
    · rw [if_pos h1] at h
      have e : i.toNat = j := Option.some.inj h
      exact ⟨by rw [seqIndex_of h0 h1, e], by omega, by omega, h1⟩
    · rw [if_neg h1] at h; cases h
  · rw [if_neg h0] at h
    by_cases h1 : -(n : Int) ≤ i
    · rw [if_pos h1] at h
      have e : (i + n).toNat = j := Option.some.inj h
      exact ⟨by rw [seqIndex_neg (by omega) h1, e], by omega, h1, by omega⟩
    · rw [if_neg h1] at h; cases h
theorem atI_get {α : Type} {xs : List α} {i : Int} {v : α} (h : atI xs i = some v) : ∃ j, seqIndex? i xs.length = some j ∧ xs[j]? = some v ∧ j < xs.length ∧ -(xs.length : Int) ≤ i ∧ i < xs.length := by
  unfold atI at h
  cases e : ixN xs.length i with
  | none => rw [e] at h; cases h
  | some j =>
    rw [e] at h
    obtain ⟨h1, h2, h3, h4⟩ := ixN_seq e
    exact ⟨j, h1, h, h2, h3, h4⟩
theorem atI_nat {α : Type} {xs : List α} {j : Nat} {v : α} (h : xs[j]? = some v) : atI xs (j : Int) = some v := by
  have hj : j < xs.length := (List.getElem?_eq_some_iff.mp h).1
  have e : ixN xs.length (j : Int) = some j := by
    unfold ixN
    rw [if_pos (by omega), if_pos (by omega)]; simp
  unfold atI; rw [e]; exact h
def PlainIx (b : Expr) : Prop := ∀ o i, subscripted b false o i = operate [o, i] (getItem o i)
def IxR (X : Cx) (r : R2) : Prop :=
  ∀ (value slice : Expr) (pins : List (Addr × Obj)) (s : Shared) (σ : St) (H : Hp) (x y : V) (v u : Value) (Q : VK), Inv X pins σ H s → RelV x v → RelV y u → r x y H Q →
    subscripted slice false v u = operate [v, u] (getItem v u) → wpAny (model X.prog X.w) X.A (subscriptTail value slice v u) (EP X pins σ Q) X.xe s
def MtR (X : Cx) (id : String) (r : V → List V → Hp → VK → Prop) : Prop :=
  ∀ (pins : List (Addr × Obj)) (s : Shared) (σ : St) (H : Hp) (x : V) (xs : List V) (v : Value) (us : List Value) (Q : VK), Inv X pins σ H s → RelV x v → Vals xs us → r x xs H Q →
    wpAny (model X.prog X.w) X.A (call (.builtin id) (v :: us)) (EP X pins σ Q) X.xe s
section
variable {X : Cx} {a b : Expr} {ta tb : TE} {pos : Pos}
theorem IxR.or {r r' : R2} (h : IxR X r) (h' : IxR X r') : IxR X (fun x y H Q => r x y H Q ∨ r' x y H Q) := by
  intro value slice pins s σ H x y v u Q I rx ry q hs
  rcases q with q | q
  · exact h value slice pins s σ H x y v u Q I rx ry q hs
  · exact h' value slice pins s σ H x y v u Q I rx ry q hs
theorem pe_ix {r : R2} (hr : IxR X r) (ha : PE X a ta) (hb : PE X b tb) (hs : PlainIx b) : PE X (.Subscript a b pos) (tOp r ta tb) := by
  intro pins s σ H Q I h
  exact Subscript_ (binT ha hb I h fun v u s2 x y H2 I2 rx ry q => hr a b pins s2 σ H2 x y v u Q I2 rx ry q (hs _ _))
def rIxL (K : PySem.W.Frag) : R2 := fun x y H Q => ∃ p xs i v, x = .ref p ∧ y = .int i ∧ SqL K H p xs ∧ atI xs i = some v ∧ Q v H
def rIxT (K : PySem.W.Frag) : R2 := fun x y H Q => ∃ p xs i v, x = .ref p ∧ y = .int i ∧ SqT K H p xs ∧ atI xs i = some v ∧ Q v H
def rIxS : R2 := fun x y H Q => ∃ z i c, x = .str z ∧ y = .int i ∧ z.length ≤ sizeLine ∧ atI z.cps.toList i = some c ∧ Q (.str ⟨#[c]⟩) H
theorem ix_list : IxR X (rIxL X.K) := by
  intro value slice pins s σ H x y v u Q I rx ry h hs
  obtain ⟨p, xs, i, z, rfl, rfl, hq, he, q⟩ := h
  cases rx
  obtain ⟨t, rfl⟩ := ry
  obtain ⟨its, r, pl, hz⟩ := I.list hq
  obtain ⟨j, h1, h2, h3, h4, h5⟩ := atI_get he
  obtain ⟨w, ew, rw'⟩ := r.get h2
  have hl := r.length
  have hn := line63
  have fin : EP X pins σ Q w s := ⟨z, H, I, rw', q⟩
  by_cases h0 : 0 ≤ i
  · have hj : i.toNat = j := by
      rw [seqIndex_of h0 h5] at h1
      exact Option.some.inj h1
    exact item_listR pl.isList h0 (by omega) (by rw [hj]; simpa using ew) fin hs
  · have hj : (i + (its.toArray.size : Int)).toNat = j := by
      rw [seqIndex_neg (by omega) h4] at h1
      rw [List.size_toArray, ← hl]
      exact Option.some.inj h1
    exact subscriptTail_builtinR (x := w) pl.isList.typeIs slot_list_getitem.lookup
      (wpAny_getItem_list_neg (Q := fun r s' => r = w ∧ EP X pins σ Q r s') pl.isList (by omega) (by rw [List.size_toArray] <;> omega) (by omega) (by rw [hj]; simpa using ew) ⟨rfl, fin⟩) hs
theorem ix_tup : IxR X (rIxT X.K) := by
  intro value slice pins s σ H x y v u Q I rx ry h hs
  obtain ⟨p, xs, i, z, rfl, rfl, hq, he, q⟩ := h
  cases rx
  obtain ⟨t, rfl⟩ := ry
  obtain ⟨its, r, pl, hz⟩ := I.tuple hq
  obtain ⟨j, h1, h2, h3, h4, h5⟩ := atI_get he
  obtain ⟨w, ew, rw'⟩ := r.get h2
  have hl := r.length
  have hn := line63
  have fin : EP X pins σ Q w s := ⟨z, H, I, rw', q⟩
  exact subscriptTail_builtinR (x := w) pl.typeIs slot_tuple_getitem.lookup
    (getItem_tuple (j := j) (Q := fun r s' => r = w ∧ EP X pins σ Q r s') pl (by omega) (by omega) (by rw [List.size_toArray, ← hl]; exact h1) (by simpa using ew) ⟨rfl, fin⟩) hs
theorem ix_str : IxR X rIxS := by
  intro value slice pins s σ H x y v u Q I rx ry h hs
  obtain ⟨z, i, c, rfl, rfl, hz, he, q⟩ := h
  obtain ⟨t, rfl⟩ := rx
  obtain ⟨t', rfl⟩ := ry
  obtain ⟨j, h1, h2, h3, h4, h5⟩ := atI_get he
  have hl : z.cps.toList.length = z.length := by simp [Str.length]
  rw [hl] at h1 h4 h5
  have hn := line63
  exact tail_any (typeIs_str s z t) slot_str_getitem.lookup (getItem_str (c := c) (by
    have e1 : decide (i < -(2 ^ 63 : Int)) = false := decide_eq_false (by omega)
    have e2 : decide (i ≥ 2 ^ 63) = false := decide_eq_false (by omega)
    rw [e1, e2, Bool.or_false]) (by rw [h1]; simpa using h2) ⟨.str ⟨#[c]⟩, H, I.tok _, ⟨_, rfl⟩, q⟩) hs
def rIx (K : PySem.W.Frag) : R2 := fun x y H Q => rIxL K x y H Q ∨ rIxT K x y H Q ∨ rIxS x y H Q
theorem ix_seq : IxR X (rIx X.K) := ix_list.or (ix_tup.or ix_str)
theorem mapSeq_set (its : List Value) (n j : Nat) (u : Value) : Obj.mapSeq (·.setIfInBounds j u) { cls := .type "list", data := .seq its.toArray n } = { cls := .type "list", data := .seq (its.set j u).toArray n } := by
  simp [Obj.mapSeq]
theorem Inv.lst {pins : List (Addr × Obj)} {σ : St} {H : Hp} {s : Shared} {p : Addr} {xs : List V} (I : Inv X pins σ H s) (h : H p = some (.lst xs)) :
    ∃ (its : List Value) (n : Nat), Vals xs its ∧ s.heap.get? p = some { cls := .type "list", data := .seq its.toArray n } ∧ xs.length ≤ sizeLine := by
  obtain ⟨z, its, n, r, e⟩ := I.hok p _ h
  exact ⟨its, n, r, e, z⟩
theorem Inv.lstUpd {pins : List (Addr × Obj)} {σ : St} {H : Hp} {s : Shared} {p : Addr} {xs ys : List V} {its its' : List Value} {n n' : Nat} {f : Obj → Obj} (I : Inv X pins σ H s) (h : H p = some (.lst xs))
    (ho : s.heap.get? p = some { cls := .type "list", data := .seq its.toArray n }) (hf : f { cls := .type "list", data := .seq its.toArray n } = { cls := .type "list", data := .seq its'.toArray n' }) (r : Vals ys its') (hz : ys.length ≤ sizeLine) (t : Nat) :
    Inv X pins σ (upd H p (.lst ys)) { s with heap := s.heap.update p f, toks := t } := by
  have e : (s.heap.update p f).get? p = some { cls := .type "list", data := .seq its'.toArray n' } := by
    rw [Heap.get?_update_self f ho (by rw [hf] <;> rfl), hf]
  refine I.write (x := p) (e := p) (by rw [h]; trivial) (.inl rfl) (fun b u hb q => (Heap.get?_update_other _ _ (Ne.symm hb)).trans q) ⟨_, e⟩ ?_
  exact ⟨hz, its', n', r, e⟩
def rSetL : V → V → V → Hp → (Hp → Prop) → Prop := fun o i v H Q => ∃ p xs k j, o = .ref p ∧ i = .int k ∧ H p = some (.lst xs) ∧ ixN xs.length k = some j ∧ Q (upd H p (.lst (xs.set j v)))
theorem set_list : PSet X rSetL := by
  intro pins s σ H o i v ov iv u Q I ro ri rv h
  obtain ⟨p, xs, k, j, rfl, rfl, hp, hj, q⟩ := h
  cases ro
  obtain ⟨t, rfl⟩ := ri
  obtain ⟨its, n, r, ho, hz⟩ := I.lst hp
  obtain ⟨h1, h2, h3, h4⟩ := ixN_seq hj
  have hl := r.length
  have hn := line63
  have I' : Inv X pins σ (upd H p (.lst (xs.set j v))) { s with heap := s.heap.update p (Obj.mapSeq (·.setIfInBounds j u)) } :=
    I.lstUpd hp ho (mapSeq_set its n j u) (r.set rv j) (by rw [List.length_set]; exact hz) s.toks
  by_cases h0 : 0 ≤ k
  · have hk : k.toNat = j := by
      rw [seqIndex_of h0 h4] at h1
      exact Option.some.inj h1
    exact PySem.W.ki_setAt ho h0 (by omega) (by rw [List.size_toArray, ← hl]; exact h4) (by rw [hk]; exact ⟨_, I', q⟩)
  · have hk : (k + (its.toArray.size : Int)).toNat = j := by
      rw [seqIndex_neg (by omega) h3] at h1
      rw [List.size_toArray, ← hl]
      exact Option.some.inj h1
    exact PySem.W.ki_setBack ho (by omega) (by rw [List.size_toArray, ← hl]; exact h3) (by omega) (by rw [hk]; exact ⟨_, I', q⟩)
theorem slice_bounds (lo hi : Option Int) (n : Nat) : (sliceBounds lo hi none n).1 = ((HT.sIx n 0 lo : Nat) : Int) ∧ (sliceBounds lo hi none n).2.1 = ((HT.sIx n n hi : Nat) : Int) ∧ (sliceBounds lo hi none n).2.2 = 1 := by
  refine ⟨?_, ?_, rfl⟩
  · cases lo with
    | none => simp [sliceBounds, HT.sIx]
    | some i =>
      simp only [sliceBounds, HT.sIx, Option.getD_none, show (1 : Int) > 0 by decide, if_true]
      by_cases h : i < 0
      · simp only [h, if_true] <;> omega
      · simp only [h, if_false] <;> omega
  · cases hi with
    | none => simp [sliceBounds, HT.sIx]
    | some i =>
      simp only [sliceBounds, HT.sIx, Option.getD_none, show (1 : Int) > 0 by decide, if_true]
      by_cases h : i < 0
      · simp only [h, if_true] <;> omega
      · simp only [h, if_false] <;> omega
theorem slicePick_cut (its : List Value) (lo hi : Option Int) : slicePick its.toArray lo hi none = ((its.drop (HT.sIx its.length 0 lo)).take (HT.sIx its.length its.length hi - HT.sIx its.length 0 lo)).toArray := by
  obtain ⟨h1, h2, h3⟩ := slice_bounds lo hi its.toArray.size
  unfold slicePick
  rw [h1, h2, h3]
  simp only [sliceRange_one, pick_run, List.size_toArray] <;> rfl
def rSlL (K : PySem.W.Frag) : V → Option Int → Option Int → Hp → VK → Prop := fun x lo hi H Q => ∃ a xs, x = .ref a ∧ SqL K H a xs ∧ ∀ p, H p = none → Q (.ref p) (upd H p (.lst (cutV xs lo hi)))
theorem sl_list : SlR X (rSlL X.K) := by
  intro pins s σ H x v vl vu lo hi sl Q I rx hs pl pu h
  obtain ⟨a, xs, rfl, hx, q⟩ := h
  cases rx
  obtain ⟨its, r, ht, hz⟩ := I.list hx
  have hlen := r.length
  refine ⟨"list", _, slot_list_getitem.lookup, ht.isList.typeIs, ?_⟩
  refine wpAny_getItem_list_slice ht.isList hs pl pu .none (by simp) ?_ (by rw [List.size_toArray] <;> omega)
  rw [slicePick_cut, ← hlen]
  refine ⟨.ref s.heap.objs.size, _, I.laid (t' := s.toks) (o := .lst (cutV xs lo hi)) (fun b ob q => Heap.get?_push_of_some _ q) (Nat.le_refl _) ?_, rfl, q _ (I.hok.fresh (Nat.le_refl _))⟩
  exact ⟨Nat.le_trans (cutV_length xs lo hi) hz, _, 0, (r.drop (HT.sIx xs.length 0 lo)).take (HT.sIx xs.length xs.length hi - HT.sIx xs.length 0 lo), Heap.get?_push_size _ rfl⟩
def flatV : V → Bool
  | .non => true
  | .bl _ => true
  | .int _ => true
  | .str _ => true
  | _ => false
def eqV : V → V → Bool
  | .non, .non => true
  | .bl a, .bl b => a == b
  | .bl a, .int b => (if a then 1 else 0) == b
  | .int a, .bl b => a == (if b then 1 else 0)
  | .int a, .int b => a == b
  | .str a, .str b => a == b
  | _, _ => false
theorem eqAt_V {A : Around} {s : Shared} {y x : V} {u v : Value} (ry : RelV y u) (rx : RelV x v) (fy : flatV y = true) (fx : flatV x = true) : SeqAt.EqAt A s u v (eqV y x) := by
  cases y with
  | non =>
    cases ry
    cases x with
    | non => cases rx; exact SeqAt.EqAt.same _
    | bl b => cases rx; exact SeqAt.EqAt.none_bool b
    | int b => obtain ⟨t, rfl⟩ := rx; exact SeqAt.EqAt.none_int b t
    | str b => obtain ⟨t, rfl⟩ := rx; exact SeqAt.EqAt.none_str b t
    | _ => exact absurd (show false = true from fx) Bool.false_ne_true
  | bl a =>
    cases ry
    cases x with
    | non => cases rx; exact SeqAt.EqAt.bool_none a
    | bl b => cases rx; exact SeqAt.EqAt.bool_bool a b
    | int b => obtain ⟨t, rfl⟩ := rx; exact SeqAt.EqAt.bool_int a b t
    | str b => obtain ⟨t, rfl⟩ := rx; exact SeqAt.EqAt.bool_str a b t
    | _ => exact absurd (show false = true from fx) Bool.false_ne_true
  | int a =>
    obtain ⟨t', rfl⟩ := ry
    cases x with
    | non => cases rx; exact SeqAt.EqAt.int_none a t'
    | bl b => cases rx; exact SeqAt.EqAt.int_bool a t' b
    | int b => obtain ⟨t, rfl⟩ := rx; exact SeqAt.EqAt.int_int a t' b t
    | str b => obtain ⟨t, rfl⟩ := rx; exact SeqAt.EqAt.int_str a t' b t
    | _ => exact absurd (show false = true from fx) Bool.false_ne_true
  | str a =>
    obtain ⟨t', rfl⟩ := ry
    cases x with
    | non => cases rx; exact SeqAt.EqAt.str_none a t'
    | bl b => cases rx; exact SeqAt.EqAt.str_bool a t' b
    | int b => obtain ⟨t, rfl⟩ := rx; exact SeqAt.EqAt.str_int a t' b t
    | str b => obtain ⟨t, rfl⟩ := rx; exact SeqAt.EqAt.str_str a t' b t
    | _ => exact absurd (show false = true from fx) Bool.false_ne_true
  | _ => exact absurd (show false = true from fy) Bool.false_ne_true
def eqU (x : V) (u : Value) : Bool := match u with
  | .none => eqV .non x
  | .bool b => eqV (.bl b) x
  | .int i _ => eqV (.int i) x
  | .str z _ => eqV (.str z) x
  | _ => false
theorem eqU_of {x y : V} {u : Value} (r : RelV y u) (f : flatV y = true) : eqU x u = eqV y x := by
  cases y with
  | non => cases r; rfl
  | bl b => cases r; rfl
  | int i => obtain ⟨t, rfl⟩ := r; rfl
  | str z => obtain ⟨t, rfl⟩ := r; rfl
  | _ => exact absurd (show false = true from f) Bool.false_ne_true
theorem any_eqU {x : V} : ∀ {xs : List V} {us : List Value}, Vals xs us → xs.all flatV = true → us.any (eqU x) = xs.any fun y => eqV y x
  | _, _, .nil, _ => rfl
  | y :: xs, u :: us, .cons r t, f => by
    rw [List.all_cons, Bool.and_eq_true] at f
    rw [List.any_cons, List.any_cons, eqU_of r f.1, any_eqU t f.2]
theorem mem_eqAt {A : Around} {s : Shared} {x : V} {v : Value} (rx : RelV x v) (fx : flatV x = true) : ∀ {xs : List V} {us : List Value}, Vals xs us → xs.all flatV = true → ∀ u ∈ us, SeqAt.EqAt A s u v (eqU x u)
  | _, _, .nil, _ => fun u hu => by cases hu
  | y :: xs, u :: us, .cons r t, f => fun u' hu => by
    rw [List.all_cons, Bool.and_eq_true] at f
    rcases List.mem_cons.mp hu with rfl | hu
    · rw [eqU_of r f.1]; exact eqAt_V r rx f.1 fx
    · exact mem_eqAt rx fx t f.2 u' hu
def inV (x : V) (xs : List V) : Bool := xs.any fun y => eqV y x
def rIn (K : PySem.W.Frag) (neg : Bool) : R2 := fun x y H Q => ∃ p xs, y = .ref p ∧ (SqL K H p xs ∨ SqT K H p xs) ∧ flatV x = true ∧ xs.all flatV = true ∧ Q (.bl (if neg then !inV x xs else inV x xs)) H
theorem op_in_seq : OpR X (compareOp .In) (rIn X.K false) := by
  intro pins s σ H x y v u Q I rx ry h
  obtain ⟨p, xs, rfl, hq, fx, fs, q⟩ := h
  cases ry
  rcases hq with hq | hq
  · obtain ⟨its, r, pl, hz⟩ := I.list hq
    refine SeqAt.in_listAt (eqU x) pl.isList (fun w hw => mem_eqAt rx fx r fs w (by simpa using hw)) ⟨.bl _, H, I, rfl, ?_⟩
    rw [show its.toArray.any (eqU x) = its.any (eqU x) by simp, any_eqU r fs]
    exact q
  · obtain ⟨its, r, pl, hz⟩ := I.tuple hq
    refine SeqAt.in_tupleAt (eqU x) pl (fun w hw => mem_eqAt rx fx r fs w (by simpa using hw)) ⟨.bl _, H, I, rfl, ?_⟩
    rw [show its.toArray.any (eqU x) = its.any (eqU x) by simp, any_eqU r fs]
    exact q
theorem call_len_seq : CallR X (.builtin "len") (fun xs H Q => ∃ p ys, xs = [.ref p] ∧ (SqL X.K H p ys ∨ SqT X.K H p ys) ∧ Q (.int ys.length) H) := by
  intro pins s σ H xs us Q I r h
  obtain ⟨p, ys, rfl, hq, q⟩ := h
  obtain ⟨u, rfl, rx⟩ := vals1 r
  cases rx
  have hn := line63
  rcases hq with hq | hq
  · obtain ⟨its, r', pl, hz⟩ := I.list hq
    have hlen := r'.length
    exact Calls.call_len_list pl.isList (by simp only [List.size_toArray] <;> omega) ⟨.int ys.length, H, I.tok _, ⟨s.toks + 1, by rw [List.size_toArray, hlen]⟩, q⟩
  · obtain ⟨its, r', pl, hz⟩ := I.tuple hq
    have hlen := r'.length
    exact len_tuple pl (by simp only [List.size_toArray] <;> omega) ⟨.int ys.length, H, I.tok _, ⟨s.toks + 1, by rw [List.size_toArray, hlen]⟩, q⟩
theorem call_list_of : CallR X (.type "list") (fun xs H Q => ∃ p ys, xs = [.ref p] ∧ (SqL X.K H p ys ∨ SqT X.K H p ys) ∧ ∀ l, H l = none → Q (.ref l) (upd H l (.lst ys))) := by
  intro pins s σ H xs us Q I r h
  obtain ⟨p, ys, rfl, hq, q⟩ := h
  obtain ⟨u, rfl, rx⟩ := vals1 r
  cases rx
  have fin : ∀ (its : List Value), Vals ys its → ys.length ≤ sizeLine → ∀ (h' : Heap) (c' : Nat), (∀ b o', s.heap.get? b = some o' → h'.get? b = some o') →
      h'.get? s.heap.objs.size = some { cls := .type "list", dict := none, data := .seq its.toArray c', slots := #[] } → EP X pins σ Q (.ref s.heap.objs.size) { s with heap := h' } := fun its r' hz h' c' kp e =>
    ⟨.ref s.heap.objs.size, _, I.laid (t' := s.toks) kp (Nat.le_refl _) (show ObjOk X.prog X.w _ h' _ (.lst ys) from ⟨hz, its, c', r', e⟩), rfl, q _ (I.hok.fresh (Nat.le_refl _))⟩
  rcases hq with hq | hq
  · obtain ⟨its, r', pl, hz⟩ := I.list hq
    have hlen := r'.length
    obtain ⟨o, ho, hc, n, hd⟩ := pl.isList
    exact call_list_seq p (.inl rfl) ho hc hd (fun h' c' kp e => fin its r' hz h' c' kp e) (by simp only [List.size_toArray] <;> omega)
  · obtain ⟨its, r', pl, hz⟩ := I.tuple hq
    have hlen := r'.length
    obtain ⟨o, ho, hc, n, hd⟩ := pl
    exact call_list_seq p (.inr rfl) ho hc hd (fun h' c' kp e => fin its r' hz h' c' kp e) (by simp only [List.size_toArray] <;> omega)
theorem call_tuple_of : CallR X (.type "tuple") (fun xs H Q => ∃ p ys, xs = [.ref p] ∧ ((SqL X.K H p ys ∧ ∀ l, H l = none → Q (.ref l) (upd H l (.tup ys))) ∨ (SqT X.K H p ys ∧ Q (.ref p) H))) := by
  intro pins s σ H xs us Q I r h
  obtain ⟨p, ys, rfl, h⟩ := h
  obtain ⟨u, rfl, rx⟩ := vals1 r
  cases rx
  rcases h with ⟨hq, q⟩ | ⟨hq, q⟩
  · obtain ⟨its, r', pl, hz⟩ := I.list hq
    have hlen := r'.length
    refine call_tuple_list pl.isList (fun h' kp => ?_) (by simp only [List.size_toArray] <;> omega)
    have I1 : Inv X pins σ H { s with heap := h' } := I.kept (t' := s.toks) kp
    have I2 : Inv X pins σ (upd H h'.objs.size (.tup ys)) { s with heap := h'.push { cls := .type "tuple", data := .seq its.toArray } } :=
      I1.laid (t' := s.toks) (fun b o e => Heap.get?_push_of_some _ e) (Nat.le_refl _) (show ObjOk X.prog X.w _ _ _ (.tup ys) from ⟨hz, its, r', IsTup.new _ _⟩)
    exact ⟨.ref h'.objs.size, _, I2, rfl, q _ (I1.hok.fresh (Nat.le_refl _))⟩
  · obtain ⟨its, r', pl, hz⟩ := I.tuple hq
    exact call_tuple_same pl ⟨.ref p, H, I, rfl, q⟩
def tyV (K : PySem.W.Frag) (T : String) (x : V) (H : Hp) : Prop := match x with
  | .str _ => T = "str"
  | .int _ => T = "int"
  | .ref p => (T = "list" ∧ ∃ xs, SqL K H p xs) ∨ (T = "tuple" ∧ ∃ o, K.lookup p = some o ∧ o.cls = .type "tuple" ∧ o.dict = none) ∨
      (T = "dict" ∧ ((∃ kvs, H p = some (.dK kvs)) ∨ ∃ kvs, H p = some (.dT kvs))) ∨ (T = "set" ∧ ∃ S n, H p = some (.set S n))
  | _ => False
theorem tyV_is {pins : List (Addr × Obj)} {σ : St} {H : Hp} {s : Shared} {T : String} {x : V} {v : Value} (I : Inv X pins σ H s) (r : RelV x v) (ty : tyV X.K T x H) :
    s.TypeIs v T ∧ ∀ a, v = .ref a → ∃ ob, s.heap.get? a = some ob ∧ ob.dict = none := by
  cases x with
  | str z =>
    obtain ⟨t, rfl⟩ := r
    cases (show T = "str" from ty)
    exact ⟨typeIs_str s z t, fun _ e => nomatch e⟩
  | int i =>
    obtain ⟨t, rfl⟩ := r
    cases (show T = "int" from ty)
    exact ⟨typeIs_int s i t, fun _ e => nomatch e⟩
  | ref p =>
    cases r
    rcases ty with ⟨rfl, xs, hq⟩ | ⟨rfl, o, hk, hc, hd⟩ | ⟨rfl, hk⟩ | ⟨rfl, S, n, hk⟩
    · obtain ⟨its, _, pl, _⟩ := I.list hq
      refine ⟨pl.isList.typeIs, fun a e => ?_⟩
      cases e
      obtain ⟨o, n, e, c, hd, _⟩ := pl
      exact ⟨o, e, hd⟩
    · refine ⟨⟨o, I.kIn p o hk, hc⟩, fun a e => ?_⟩
      cases e
      exact ⟨o, I.kIn _ o hk, hd⟩
    · have z : ∃ o, s.heap.get? p = some o ∧ o.ExactDict := by
        rcases hk with ⟨kvs, hk⟩ | ⟨kvs, hk⟩
        · obtain ⟨_, _, _, _, o, _, _, e, ex, _⟩ := I.hok p _ hk
          exact ⟨o, e, ex⟩
        · obtain ⟨_, _, _, _, o, _, _, e, ex, _⟩ := I.hok p _ hk
          exact ⟨o, e, ex⟩
      obtain ⟨o, e, ex⟩ := z
      refine ⟨⟨o, e, ex.1⟩, fun a e2 => ?_⟩
      cases e2
      exact ⟨o, e, ex.2.1⟩
    · obtain ⟨o, _, _, _, e, ex, _⟩ := I.hok p _ hk
      refine ⟨⟨o, e, ex.1⟩, fun a e2 => ?_⟩
      cases e2
      exact ⟨o, e, ex.2.1⟩
  | _ => exact False.elim ty
def tBM (K : PySem.W.Frag) (T : String) (r : V → List V → Hp → VK → Prop) (to : TE) (t : TA) : TE := fun σ H Q => to σ H fun x H1 => tyV K T x H1 ∧ t σ H1 fun xs H2 => r x xs H2 Q
variable {o e : Expr} {es : List Expr} {to : TE} {t : TA} {name : Str} {apos cpos : Pos} {T id : String} {r : V → List V → Hp → VK → Prop}
theorem pe_bm (pa : PlainAttrs T) (slot : Slot T name id) (hty : typeOf (.builtin id) = pure (.type "method_descriptor")) (hm : MtR X id r) (ho : PE X o to) (ha : PA X (e :: es) t)
    (hbase : attributeBase o name X.env (eval o X.env) = eval o X.env := by rfl)
    (hfew : ((backTo cpos (starEach (e :: es) X.env)).all (fun x => !x.1) && (backToKw cpos (keywordEach [] X.env)).all (fun x => x.1.isSome)
      && decide ((e :: es).length + ([] : List Keyword).length + (if ([] : List Keyword).isEmpty then 0 else 1) < 30)) = true := by rfl)
    (hline : (apos.endLine == cpos.line) = true := by rfl) (hs : starEach (e :: es) X.env = (false, eval e X.env) :: starEach es X.env := by rfl) (hplain : (backTo cpos (starEach es X.env)).any (·.1) = false := by rfl) :
    PE X (.Call (.Attribute o name apos) (e :: es) [] cpos) (tBM X.K T r to t) := by
  intro pins s σ H Q I h
  refine wpAny_Call_method_late hbase hfew hline rfl (thn (ho pins s σ H _ I h) fun v s1 ⟨x, H1, I1, r1, ty, q1⟩ => ?_)
  obtain ⟨h1, h2⟩ := tyV_is I1 r1 ty
  refine ⟨T, id, pa, slot, hty, h1, h2, ?_⟩
  have hA := ha cpos pins s1 σ H1 _ I1 q1
  rw [hs] at hA ⊢
  refine Calls.callWith_builtin (by show (false || (backTo cpos (starEach es X.env)).any (·.1)) = false; rw [hplain] <;> rfl) (Calls.evalArgs_plain ?_)
  exact thn hA fun us s2 ⟨vs, H2, I2, r2, q2⟩ => hm pins s2 σ H2 x vs v us Q I2 r1 r2 q2
end
end L2
namespace L2
open PySem PySem.Spec PyProof.Rows
def MtM (X : Cx) (id : String) (r : V → List V → Hp → VK → Prop) : Prop :=
  ∀ (pins : List (Addr × Obj)) (s : Shared) (σ : St) (H : Hp) (x : V) (xs : List V) (v : Value) (us : List Value) (Q : VK), Inv X pins σ H s → RelV x v → Vals xs us → r x xs H Q →
    wpAny (model X.prog X.w) X.A (call (.builtin id) (v :: us)) (EP X pins σ Q) X.xe s
theorem Vals.one : ∀ {x : V} {us : List Value}, Vals [x] us → ∃ u, us = [u] ∧ RelV x u
  | _, _, .cons r .nil => ⟨_, rfl, r⟩
theorem Vals.zero : ∀ {us : List Value}, Vals [] us → us = []
  | _, .nil => rfl
theorem Vals.rep {xs : List V} {us : List Value} (h : Vals xs us) : ∀ k : Nat, Vals (List.replicate k xs).flatten (List.replicate k us).flatten
  | 0 => .nil
  | k + 1 => by
    rw [List.replicate_succ, List.replicate_succ, List.flatten_cons, List.flatten_cons]
    exact Vals.append h (Vals.rep h k)
theorem foldl_rep (its : List Value) : ∀ (k : Nat) (acc : List Value),
    List.foldl (fun x1 x2 => x1 ++ x2) acc.toArray (List.replicate k its.toArray) = (acc ++ (List.replicate k its).flatten).toArray
  | 0, acc => by simp
  | k + 1, acc => by
    have e : acc.toArray ++ its.toArray = (acc ++ its).toArray := by simp
    have e2 : (acc ++ its) ++ (List.replicate k its).flatten = acc ++ (List.replicate (k + 1) its).flatten := by
      rw [List.replicate_succ, List.flatten_cons, List.append_assoc]
    rw [← e2, ← foldl_rep its k (acc ++ its), ← e, List.replicate_succ, List.foldl_cons]
section
variable {X : Cx} {pins : List (Addr × Obj)} {σ : St} {H : Hp} {s : Shared} {l b : Addr} {xs ys zs : List V}
theorem Inv.lset {its its' : List Value} {n : Nat} {f : Array Value → Array Value} {t' : Nat} (I : Inv X pins σ H s) (hH : H l = some (.lst xs))
    (e : s.heap.get? l = some { cls := .type "list", data := .seq its.toArray n }) (hf : f its.toArray = its'.toArray) (hv : Vals ys its') (hz : ys.length ≤ sizeLine) :
    Inv X pins σ (upd H l (.lst ys)) { s with heap := s.heap.update l (Obj.mapSeq f), toks := t' } := by
  have q := PySem.IsL.update e f
  rw [hf] at q
  refine I.write (x := l) (e := l) (by rw [hH]; exact trivial) (.inl rfl) (fun b' u hb hu => (Heap.get?_update_other s.heap (Obj.mapSeq f) (Ne.symm hb)).trans hu) ⟨_, q⟩ ?_
  exact ⟨hz, its', _, hv, q⟩
theorem Inv.lnew {its : List Value} {t' : Nat} (I : Inv X pins σ H s) (hv : Vals ys its) (hz : ys.length ≤ sizeLine) :
    Inv X pins σ (upd H s.heap.objs.size (.lst ys)) { s with heap := s.heap.push { cls := .type "list", data := .seq its.toArray }, toks := t' } :=
  I.laid (fun _ _ q => Heap.get?_push_of_some _ q) (Nat.le_refl _) ⟨hz, its, 0, hv, Heap.get?_push_size _ rfl⟩
theorem Inv.fresh (I : Inv X pins σ H s) : H s.heap.objs.size = none := I.hok.fresh (Nat.le_refl _)
theorem Inv.lstM (I : Inv X pins σ H s) (hH : H l = some (.lst xs)) : xs.length ≤ sizeLine ∧ ∃ (its : List Value) (n : Nat), Vals xs its ∧ xs.length = its.length ∧ s.heap.get? l = some { cls := .type "list", data := .seq its.toArray n } := by
  obtain ⟨z, its, n, r, e⟩ := I.hok l _ hH
  exact ⟨z, its, n, r, r.length, e⟩
end
section
variable {X : Cx}
def rAppend : V → List V → Hp → VK → Prop := fun x vs H Q => ∃ l xs y, x = .ref l ∧ vs = [y] ∧ H l = some (.lst xs) ∧ xs.length < sizeLine ∧ Q .non (upd H l (.lst (xs ++ [y])))
theorem mt_append : MtM X "list.append" rAppend := by
  intro pins s σ H x vs v us Q I rx rv h
  obtain ⟨l, xs, y, rfl, rfl, hH, hz, q⟩ := h
  cases rx
  obtain ⟨u, rfl, ru⟩ := rv.one
  obtain ⟨z, its, n, r, hl, e⟩ := I.lstM hH
  refine call_meets F.slot_list_append ⟨_, e, rfl⟩ F.entry_list_append (F.args_list_append_2 _ _) (PySem.list_append l its.toArray n u (by rw [List.size_toArray]; omega)) ⟨e, ?_⟩
  refine ⟨.non, _, I.lset (its' := its ++ [u]) hH e (by simp) (r.append (.cons ru .nil)) ?_, rfl, q⟩
  rw [List.length_append, List.length_singleton]
  omega
theorem len_rep {α : Type} (xs : List α) (k : Nat) : (List.replicate k xs).flatten.length = k * xs.length := by
  induction k with
  | zero => simp
  | succ k ih => rw [List.replicate_succ, List.flatten_cons, List.length_append, ih, Nat.succ_mul, Nat.add_comm]
end
section
variable {prog : Program} {w : World} {A : Around} {E : Value → Shared → Prop} {s : Shared}
end
section
variable {X : Cx}
end
end L2
namespace Att
open PySem PySem.W PySem.Calls PyProof.Rows
theorem ints_of_wellAll {P : Params} {h : Heap} : ∀ (ns : List Int) (vs : List Value), WellAll P h vs (ns.map WData.int) → IntsAre vs ns := by
  intro ns
  induction ns with
  | nil =>
    intro vs w
    rw [List.map_nil] at w
    cases w
    exact .nil
  | cons n ns ih =>
    intro vs w
    rw [List.map_cons] at w
    cases w with
    | cons a b =>
      cases a
      exact .cons _ _ (ih _ b)
theorem script_of {l : OpenLaw} {n : Nat} (hn : l.most = some n) {P : Params} {h : Heap} {args : List WData} {vals : List Value}
    (hpre : l.row.toRowW.claim.pre args = true) (hwl : WellAll P h vals args) :
    ∃ a vs ns, vals = [Value.ref a] ∧ args = [WData.list (ns.map WData.int)] ∧ h.get? a = some { cls := .type "list", data := .seq vs.toArray } ∧ IntsAre vs ns ∧ ns.length ≤ n := by
  have hsh : WShape.hasAll [] args [.list .int] = true := (pre_splitW hpre).1
  have hc : l.pre.holds [] { args := args } = true := (pre_splitW hpre).2
  obtain ⟨d, r, rfl, h1, h2⟩ := hasAllW_cons hsh
  obtain rfl := hasAllW_nil h2
  obtain ⟨xs, rfl, h3⟩ := hasW_list h1
  obtain ⟨ns, rfl⟩ := items_int h3
  have hlen : ns.length ≤ n := by
    unfold OpenLaw.pre at hc
    have h4 : (WTm.not (.lt (.lit (.int (n : Int))) (.len (.arg 0)))).holds [] { args := [.list (ns.map .int)] } = true := by
      have h4 := (holds_andW hc).1
      rw [hn] at h4
      exact h4
    have h5 := condW_of h4 (w_not (w_lt w_lit (w_len_list (w_arg rfl))))
    rw [List.length_map] at h5
    refine Nat.le_of_not_lt fun q => ?_
    have q' : (n : Int) < ((ns.length : Nat) : Int) := by omega
    first
      | (rw [decide_eq_true q'] at h5; exact absurd h5 (by decide))
      | (simp at h5; omega)
  cases hwl with
  | cons w1 w2 =>
    cases w2
    cases w1 with
    | list ho hall => exact ⟨_, _, ns, rfl, rfl, ho, ints_of_wellAll ns _ hall, hlen⟩
theorem post_true (l : OpenLaw) (args : List WData) : l.row.toRowW.claim.post args (.bool true) args = true :=
  postW_of (r := l.row.toRowW) (X := (true == true))
    (show WShape.has [] (.bool true) .bool = true by first | rfl | decide | simp [WShape.has, WShape.arms, WShape.armsAll])
    (show (WTm.eq .res (.lit (.bool true))).value [] { args := args, res := some (.bool true), after := args } = some (.bool (true == true)) from w_eq_bool (w_res rfl) w_lit) rfl
theorem attach_call {l : OpenLaw} {n : Nat} {q : Program} {loose : List Str} {XP : (Str → Option Value) → Heap → Prop} {YP : World → Heap → Prop} {d : DefRec}
    (hn : l.most = some n) (hdf : d.params.defaults = [])
    (call : ∀ (w : World) (s₀ s₁ : Shared) (mg mb : Str → Option Value) (fa : Addr) (o : Obj) (pm cd doc : Value) (a : Addr) (vs : List Value) (ns : List Int),
      Ground q loose [] XP w s₀ mg mb s₁.heap → YP w s₁.heap →
      s₁.heap.get? fa = some o → o.data = .func (docDef d.name d.params d.body d.scope pm cd doc) → s₁.heap.CodeRec cd d.name → mg d.name = some (.ref fa) →
      s₁.heap.get? a = some { cls := .type "list", data := .seq vs.toArray } → IntsAre vs ns → ns.length ≤ n → s₁.gens = #[] →
      codeAny (model l.prog w) callerA (.call (.ref fa) ⟨[.ref a], []⟩) (fun r s' => r = .ok (.ret (.bool true)) ∧ OldK s₁.heap s'.heap ∧ s'.os = s₁.os ∧ AllBare s'.gens) s₁) :
    WalkO q loose XP YP l.row.toRowW d [] (fun f vs => PySem.call f vs) := by
  intro w s₀ s₁ mg mb G Y fa o pm cd doc dV kV ho hd hcd hD hmg hg args vals as hpre hlay hrd hwl hlo
  obtain rfl : dV = .none := Dflts.none hD hdf
  obtain rfl : kV = .none := Dflts.noKw hD
  obtain ⟨a, vs, ns, rfl, rfl, hobj, hints, hlen⟩ := script_of hn hpre hwl
  refine enter_call (codeAny_mono (call w s₀ s₁ mg mb fa o pm cd doc a vs ns G Y ho (fd_plain hd) hcd hmg hobj hints hlen hg) fun r s' hq => ?_)
  obtain ⟨rfl, h2, h3, h4⟩ := hq
  exact ⟨.inl ⟨.bool true, .bool true, [], rfl, fun _ => rfl, .bool true, post_true l _, fun _ => ⟨List.Pairwise.nil, fun _ hm => (nomatch hm)⟩⟩, h2, h3, h4⟩
section
variable {prog : Program} {w : World} {A : Around} {E : Value → Shared → Prop} {s : Shared} {K : Frag}
end
end Att
namespace L2
open PySem PySem.Spec PyProof.Rows
theorem vals_ints : ∀ {vs : List Value} {ns : List Int}, IntsAre vs ns → Vals (ns.map V.int) vs
  | _, _, .nil => .nil
  | _, _, .cons n t h => .cons ⟨t, rfl⟩ (vals_ints h)
def Only (H : Hp) : Prop := ∀ b, H b = none ∨ ∃ o xs, H b = some (.frz o (.lst xs))
theorem law_call {P : Program} {w : World} {K : PySem.W.Frag} {mg mb : Str → Option Value} {CX : CXT} {k : Nat} {fa a : Addr} {fd : FuncData} {x : Str} {sp : Sp} {s₁ : Shared} {vs : List Value} {ns : List Int}
    (KX : K.In s₁.heap) (hns : s₁.heap.Ns mainGlobals mg) (hb : s₁.heap.Ns builtinsNs mb) (hbb : ∀ x : Str, x ≠ "__name__" → mb x = bootBuiltins x) (hlim : s₁.heap.NoLimit) (hg : s₁.gens = #[])
    (ha : s₁.heap.get? a = some { cls := .type "list", data := .seq vs.toArray }) (hi : IntsAre vs ns) (hl : ns.length ≤ sizeLine) (hr : Room k callerA)
    (F : ∀ base : Heap, K.In base → base.Ns mainGlobals mg → FnOk P w K mg base CX k fa fd [x] sp) (hbind : ∀ (s : Shared) (u : Value), BindsTo s fd ⟨[u], []⟩ [(x, u)])
    (hsp : ∀ H : Hp, Only H → SqL K H a (ns.map V.int) → sp [.ref a] H (fun v _ => v = .bl true) fun _ _ _ => False)
    (hCX : ∀ H e s', CX [] H s₁ (fun _ _ _ => False) e s' → False) :
    codeAny (model P w) callerA (.call (.ref fa) ⟨[.ref a], []⟩) (fun r s' => r = .ok (.ret (.bool true)) ∧ OldK s₁.heap s'.heap ∧ s'.os = s₁.os ∧ AllBare s'.gens) s₁ := by
  have rv := vals_ints hi
  have lenV := hi.length
  have core : ∀ H : Hp, Only H → SqL K H a (ns.map V.int) → HOk P w H s₁.heap → (∀ b, H b ≠ none → b = a) → (H a ≠ none → K.lookup a = none) →
      codeAny (model P w) callerA (.call (.ref fa) ⟨[.ref a], []⟩) (fun r s' => r = .ok (.ret (.bool true)) ∧ OldK s₁.heap s'.heap ∧ s'.os = s₁.os ∧ AllBare s'.gens) s₁ := by
    intro H hO hS hok hA hK
    have base_of : ∀ {b : Addr} {o : Obj}, s₁.heap.get? b = some o → H b = none → (hidT s₁.heap H).get? b = some o := fun e n => hidT_get e n
    have noA : ∀ {b : Addr} {o : Obj} {es : Array DictEntry} {ep : Nat}, s₁.heap.get? b = some o → o.data = .dict es ep → H b = none := fun {b o es ep} e d => by
      cases q : H b with
      | none => rfl
      | some u =>
        have e' : b = a := hA b (by rw [q]; simp)
        subst e'
        rw [ha] at e; cases e
        have d' : Data.seq vs.toArray _ = Data.dict es ep := d
        cases d'
    have nsK : ∀ {b : Addr} {m : Str → Option Value}, s₁.heap.Ns b m → (hidT s₁.heap H).Ns b m := fun {b m} ⟨o, es, ep, e, d, r⟩ => ⟨o, es, ep, base_of e (noA e d), d, r⟩
    have hKb : K.In (hidT s₁.heap H) := fun b o e => base_of (KX b o e) (by
      cases q : H b with
      | none => rfl
      | some u =>
        have e' : b = a := hA b (by rw [q]; simp)
        subst e'
        rw [hK (by rw [q]; simp)] at e; cases e)
    have hM : Mod K mg (hidT s₁.heap H) := ⟨hKb, nsK hns, ⟨mb, nsK hb, hbb⟩, let ⟨mc, h1, h2⟩ := hlim; ⟨mc, nsK h1, h2⟩⟩
    have e0 : Env0 P w K mg (hidT s₁.heap H) callerA [] s₁ H := ⟨rfl, hM, fun b o e => of_hidT e, Nat.le_of_eq (hidT_size _ _), trivial, fun b hb => absurd (show b ∈ ([] : List Addr) from hb) (by simp), hok, .of_eq hg⟩
    refine codeAny_mono ((F _ hKb (nsK hns)).run callerA [] s₁ H ⟨[.ref a], []⟩ [.ref a] [.ref a] _ _ hr e0 (hbind s₁ (.ref a)) (.cons rfl .nil) (hsp H hO hS)) fun r s' h => ?_
    cases r with
    | error e => exact (hCX H e s' h).elim
    | ok fl =>
      cases fl with
      | next => exact False.elim h
      | brk => exact False.elim h
      | cont => exact False.elim h
      | ret u =>
        obtain ⟨v, H', os, bare, un, hok', r', q⟩ := h
        have q' : v = .bl true := q
        subst q'
        obtain rfl : u = Value.bool true := r'
        refine ⟨rfl, OldK.of_keep fun b o e => ?_, os, bare⟩
        cases q : H b with
        | none => exact un.keep b o e q (by intro z; exact absurd (show b ∈ ([] : List Addr) from z) (by simp)) (by simp)
        | some u =>
          rcases hO b with z | ⟨ob, xs, z⟩
          · rw [q] at z; cases z
          · have z2 := un.frzs b ob _ z
            obtain ⟨e1, _⟩ := hok b _ z
            obtain ⟨e2, _⟩ := hok' b _ z2
            rw [e] at e1; cases e1
            exact e2
  cases hk : K.lookup a with
  | some o =>
    have e := KX a o hk
    rw [ha] at e
    cases e
    refine core (fun _ => none) (fun _ => .inl rfl) (.inr ⟨_, vs.toArray, _, hk, rfl, rfl, rfl, by rw [List.size_toArray, lenV]; exact hl, by simpa using rv⟩) (fun b u z => by have z' : (none : Option HO) = some u := z; cases z') (fun b z => absurd rfl z) fun z => absurd rfl z
  | none =>
    refine core (fun b => if b = a then some (.frz { cls := .type "list", data := .seq vs.toArray } (.lst (ns.map V.int))) else none) (fun b => ?_) (.inl (.inr ⟨{ cls := .type "list", data := .seq vs.toArray }, if_pos rfl⟩)) (fun b u z => ?_) (fun b z => ?_) fun _ => hk
    · by_cases hb : b = a
      · exact .inr ⟨_, _, if_pos hb⟩
      · exact .inl (if_neg hb)
    · by_cases hb : b = a
      · have z' := (if_pos hb).symm.trans z
        cases z'
        subst hb
        exact ⟨ha, by rw [List.length_map]; exact hl, vs, _, rv, ha⟩
      · have z' := (if_neg hb).symm.trans z
        cases z'
    · by_cases hb : b = a
      · exact hb
      · exact absurd (if_neg hb) z
end L2
namespace L2
open PySem PySem.Spec PyProof.Rows
theorem walk_of {l : PySem.W.OpenLaw} {n k : Nat} {q : Program} {loose : List Str} {XP : (Str → Option Value) → Heap → Prop} {YP : World → Heap → Prop} {d : DefRec} {K : Params → PySem.W.Frag} {CX : World → CXT} {sp : World → Sp} {x : Str}
    (hn : l.most = some n) (hn2 : n ≤ sizeLine) (hdf : d.params.defaults = []) (hr : Room k callerA)
    (hY : ∀ (w : World) (h : Heap), YP w h → (K w.params).In h)
    (F : ∀ (w : World) (mg : Str → Option Value) (fa : Addr) (h : Heap), (K w.params).In h → h.Ns mainGlobals mg → mg d.name = some (.ref fa) →
      ∃ fd : FuncData, (∀ (s : Shared) (u : Value), BindsTo s fd ⟨[u], []⟩ [(x, u)]) ∧
        ∀ base : Heap, (K w.params).In base → base.Ns mainGlobals mg → FnOk l.prog w (K w.params) mg base (CX w) k fa fd [x] (sp w))
    (hsp : ∀ (w : World) (H : Hp) (a : Addr) (ns : List Int), ns.length ≤ n → Only H → SqL (K w.params) H a (ns.map V.int) → sp w [.ref a] H (fun v _ => v = .bl true) fun _ _ _ => False)
    (hCX : ∀ (w : World) (H : Hp) (s : Shared) (e : Value) (s' : Shared), CX w [] H s (fun _ _ _ => False) e s' → False) :
    PySem.W.WalkO q loose XP YP l.row.toRowW d [] (fun f vs => PySem.call f vs) := by
  refine Att.attach_call hn hdf fun w s₀ s₁ mg mb fa o pm cd doc a vs ns G Y ho hd hcd hmg hobj hints hlen hg => ?_
  have KX := hY w _ Y
  obtain ⟨fd, hb, hF⟩ := F w mg fa _ KX G.T.g hmg
  exact law_call KX G.T.g G.T.b G.T.builtins G.T.nolimit hg hobj hints (Nat.le_trans hlen hn2) hr hF hb (fun H hO hS => hsp w H a ns hlen hO hS) fun H e s' => hCX w H s₁ e s'
end L2
namespace L2
open PySem PySem.Spec PyProof.Rows
def defArgs (s : Stmt) : Arguments := match s with
  | .FunctionDef _ a _ _ _ _ _ _ _ _ => a
  | _ => { posonlyargs := [], args := [], vararg := none, kwonlyargs := [], kw_defaults := [], kwarg := none, defaults := [] }
def defBody (s : Stmt) : List Stmt := match s with
  | .FunctionDef _ _ b _ _ _ _ _ _ _ => b
  | _ => []
def defScope (s : Stmt) : Scope := match s with
  | .FunctionDef _ _ _ _ _ _ sc _ _ _ => sc
  | _ => { kind := .function, names := [], isGenerator := false, isCoroutine := false }
abbrev CX0 : CXT := fun _ _ _ _ _ _ => False
abbrev E0 : XK := fun _ _ _ => False
theorem pass0 {X : Cx} : Passes CX0 X E0 := fun _ _ _ _ _ _ _ h => h.elim
structure Fun (K : PySem.W.Frag) (x qual : Str) (st : Stmt) (f : Addr) (fd : FuncData) : Prop where
  ex : ∃ (oc : Value) (od : Option Addr) (kV doc pm : Value) (an : Option Addr) (cdv ct : Value) (osl : Array (Option Value)),
    fd = PySem.W.fnOf x qual (defArgs st) (defBody st) (defScope st) .none kV doc pm an cdv ct ∧ K.lookup f = some ⟨oc, od, .func fd, osl⟩ ∧ PySem.W.codeIn K cdv qual = true
  kp : PySem.W.keepIn K (.ref f) = true
section
variable {P : Program} {w : World} {K : PySem.W.Frag} {mg : Str → Option Value} {base : Heap}
theorem Fun.ok {x qual : Str} {st : Stmt} {f : Addr} {fd : FuncData} {N ps : List Str} {k : Nat} {sp : Sp} (F : Fun K x qual st f fd) (S : FnScope N ps (defScope st)) (len : ∀ vs H Q E, sp vs H Q E → vs.length = ps.length)
    (hbody : ∀ (cdv : Value) (A : Around) (outer : List Env) (s : Shared) (H : Hp) (vs : List V) (Q : VK) (E : XK), Room k (A.deeper (envOfC qual (defScope st) s.heap.objs.size f cdv)) → sp vs H Q E →
      ∃ t, PSs (cxOf CX0 P w K mg base N qual (defScope st) f cdv A outer s H E).nox (defBody st) t ∧ t { nx := fun _ H' => Q .non H', rt := Q } (start N vs) H) : FnOk P w K mg base CX0 (k + 1) f fd ps sp := by
  obtain ⟨oc, od, kV, doc, pm, an, cdv, ct, osl, rfl, lk, hcd⟩ := F.ex
  refine fn_of lk hcd S len fun A outer s H vs Q E hr hsp => ?_
  obtain ⟨t, h, q⟩ := hbody cdv A outer s H vs Q E hr hsp
  exact ⟨t, h.nox, q⟩
theorem Fun.binds {x qual : Str} {st : Stmt} {f : Addr} {fd : FuncData} {ps : List Str} (F : Fun K x qual st f fd)
    (h : ∀ (kV doc pm : Value) (an : Option Addr) (cdv ct : Value) (us : List Value), us.length = ps.length → bindArgs (PySem.W.fnOf x qual (defArgs st) (defBody st) (defScope st) .none kV doc pm an cdv ct) ⟨us, []⟩ = pure (ps.zip us)) : Binds K fd ps [] := by
  obtain ⟨oc, od, kV, doc, pm, an, cdv, ct, osl, rfl, lk, hcd⟩ := F.ex
  exact .all (h kV doc pm an cdv ct)
theorem fun_mk {x qual : Str} {st : Stmt} {f : Addr} {oc : Value} {od an : Option Addr} {osl : Array (Option Value)} {kV doc pm cdv ct : Value} (l : K.lookup f = some ⟨oc, od, .func (PySem.W.fnOf x qual (defArgs st) (defBody st) (defScope st) .none kV doc pm an cdv ct), osl⟩)
    (c : PySem.W.codeIn K cdv qual = true) (k : PySem.W.keepIn K (.ref f) = true) : Fun K x qual st f (PySem.W.fnOf x qual (defArgs st) (defBody st) (defScope st) .none kV doc pm an cdv ct) := ⟨⟨oc, od, kV, doc, pm, an, cdv, ct, osl, rfl, l, c⟩, k⟩
end
section
variable {X : Cx}
end
end L2
namespace L3
open PySem PySem.Spec PyProof.Rows L2
inductive D where
  | non | bl (b : Bool) | int (i : Int) | str (x : Str) | tup (xs : List D) | lst (xs : List D) | edc | ref (n : Nat)
abbrev G := List (List D)
abbrev Sg := List (Option D)
structure Ix where
  ix : List Addr
  hd : List Addr
def SqV (K : PySem.W.Frag) (H : Hp) (ι : Ix) (a : Addr) (xs : List V) : Prop :=
  (Rd H a (.lst xs) ∧ a ∉ ι.ix ∧ a ∉ ι.hd) ∨
    ∃ (o : Obj) (its : Array Value) (n : Nat), K.lookup a = some o ∧ o.cls = .type "list" ∧ o.dict = none ∧ o.data = .seq its n ∧ its.size ≤ sizeLine ∧ Vals xs its.toList
theorem SqV.sq {K H ι a xs} (h : SqV K H ι a xs) : SqL K H a xs := by
  rcases h with ⟨h, _⟩ | h
  · exact .inl h
  · exact .inr h
def SqU (K : PySem.W.Frag) (H : Hp) (ι : Ix) (a : Addr) (xs : List V) : Prop :=
  (Rd H a (.tup xs) ∧ a ∉ ι.ix) ∨
    ∃ (o : Obj) (its : Array Value) (n : Nat), K.lookup a = some o ∧ o.cls = .type "tuple" ∧ o.data = .seq its n ∧ its.size ≤ sizeLine ∧ Vals xs its.toList
theorem SqU.sq {K H ι a xs} (h : SqU K H ι a xs) : SqT K H a xs := by
  rcases h with ⟨h, _⟩ | h
  · exact .inl h
  · exact .inr h
mutual
def Rel (K : PySem.W.Frag) (H : Hp) (ι : Ix) : D → V → Prop
  | .non, v => v = .non
  | .bl b, v => v = .bl b
  | .int i, v => v = .int i
  | .str x, v => v = .str x
  | .tup xs, v => ∃ a vs, v = .ref a ∧ SqU K H ι a vs ∧ RelL K H ι xs vs
  | .lst xs, v => ∃ a vs, v = .ref a ∧ SqV K H ι a vs ∧ RelL K H ι xs vs
  | .edc, v => ∃ a, v = .ref a ∧ H a = some (.dK []) ∧ a ∉ ι.ix
  | .ref n, v => ∃ a, v = .ref a ∧ ι.ix[n]? = some a
def RelL (K : PySem.W.Frag) (H : Hp) (ι : Ix) : List D → List V → Prop
  | [], vs => vs = []
  | x :: xs, vs => ∃ v vr, vs = v :: vr ∧ Rel K H ι x v ∧ RelL K H ι xs vr
end
structure Ext (H : Hp) (ι : Ix) (H' : Hp) (ι' : Ix) : Prop where
  same : ∀ a o, H a = some o → a ∉ ι.ix → H' a = some o
  there : ∀ a, H a ≠ none → H' a ≠ none
  more : ∃ m, ι'.ix = ι.ix ++ m ∧ ∀ a ∈ m, H a = none
  hid : ι'.hd = ι.hd
structure RelG (K : PySem.W.Frag) (H : Hp) (ι : Ix) (g : G) : Prop where
  nd : ι.ix.Nodup
  len : ι.ix.length = g.length
  hid : ∀ b ∈ ι.hd, b ∉ ι.ix ∧ H b ≠ none
  at_ : ∀ (i : Nat) xs, g[i]? = some xs → ∃ a vs, ι.ix[i]? = some a ∧ H a = some (.lst vs) ∧ RelL K H ι xs vs
def RelS (K : PySem.W.Frag) (H : Hp) (ι : Ix) (σd : Sg) (σ : L2.St) : Prop :=
  σd.length = σ.length ∧ ∀ (i : Nat) d, σd[i]? = some (some d) → ∃ v, σ[i]? = some (some v) ∧ Rel K H ι d v
theorem Ext.refl {H ι} : Ext H ι H ι := ⟨fun _ _ h _ => h, fun _ h => h, ⟨[], by simp, fun _ h => by simp at h⟩, rfl⟩
theorem Ext.old {H ι H1 ι1} (a : Ext H ι H1 ι1) {c : Addr} {o : HO} (h : H c = some o) (n : c ∉ ι.ix) : c ∉ ι1.ix := fun z => by
  obtain ⟨m1, e1, f1⟩ := a.more
  rw [e1] at z
  rcases List.mem_append.mp z with z | z
  · exact n z
  · rw [f1 c z] at h; cases h
theorem Ext.trans {H ι H1 ι1 H2 ι2} (a : Ext H ι H1 ι1) (b : Ext H1 ι1 H2 ι2) : Ext H ι H2 ι2 := by
  obtain ⟨m1, e1, f1⟩ := a.more
  obtain ⟨m2, e2, f2⟩ := b.more
  refine ⟨fun c o h n => b.same c o (a.same c o h n) (a.old h n), fun c h => b.there c (a.there c h), ⟨m1 ++ m2, by rw [e2, e1, List.append_assoc], fun c z => ?_⟩, b.hid.trans a.hid⟩
  rcases List.mem_append.mp z with z | z
  · exact f1 c z
  · cases q : H c with
    | none => rfl
    | some o => exact absurd (f2 c z) (a.there c (by rw [q]; simp))
theorem Ext.at {H ι H1 ι1} (a : Ext H ι H1 ι1) {i : Nat} {c : Addr} (h : ι.ix[i]? = some c) : ι1.ix[i]? = some c := by
  obtain ⟨m1, e1, _⟩ := a.more
  rw [e1, List.getElem?_append_left (List.getElem?_eq_some_iff.mp h).1]; exact h
theorem SqV.ext {K H ι H1 ι1 a xs} (e : Ext H ι H1 ι1) (h : SqV K H ι a xs) : SqV K H1 ι1 a xs := by
  rcases h with ⟨h | ⟨o, h⟩, n, k⟩ | h
  · exact .inl ⟨.inl (e.same _ _ h n), e.old h n, by rw [e.hid]; exact k⟩
  · exact .inl ⟨.inr ⟨o, e.same _ _ h n⟩, e.old h n, by rw [e.hid]; exact k⟩
  · exact .inr h
theorem SqU.ext {K H ι H1 ι1 a xs} (e : Ext H ι H1 ι1) (h : SqU K H ι a xs) : SqU K H1 ι1 a xs := by
  rcases h with ⟨h | ⟨o, h⟩, n⟩ | h
  · exact .inl ⟨.inl (e.same _ _ h n), e.old h n⟩
  · exact .inl ⟨.inr ⟨o, e.same _ _ h n⟩, e.old h n⟩
  · exact .inr h
mutual
theorem Rel.ext {K H ι H1 ι1} (e : Ext H ι H1 ι1) : ∀ (d : D) {v : V}, Rel K H ι d v → Rel K H1 ι1 d v
  | .non, v, h => by simpa [Rel] using h
  | .bl _, v, h => by simpa [Rel] using h
  | .int _, v, h => by simpa [Rel] using h
  | .str _, v, h => by simpa [Rel] using h
  | .tup xs, v, h => by
    simp only [Rel] at h ⊢
    obtain ⟨a, vs, e1, hq, hr⟩ := h
    exact ⟨a, vs, e1, hq.ext e, RelL.ext e xs hr⟩
  | .lst xs, v, h => by
    simp only [Rel] at h ⊢
    obtain ⟨a, vs, e1, hq, hr⟩ := h
    exact ⟨a, vs, e1, hq.ext e, RelL.ext e xs hr⟩
  | .edc, v, h => by
    simp only [Rel] at h ⊢
    obtain ⟨a, e1, hq, hr⟩ := h
    exact ⟨a, e1, e.same _ _ hq hr, e.old hq hr⟩
  | .ref n, v, h => by
    simp only [Rel] at h ⊢
    obtain ⟨a, e1, hq⟩ := h
    exact ⟨a, e1, e.at hq⟩
theorem RelL.ext {K H ι H1 ι1} (e : Ext H ι H1 ι1) : ∀ (ds : List D) {vs : List V}, RelL K H ι ds vs → RelL K H1 ι1 ds vs
  | [], vs, h => by simpa [RelL] using h
  | d :: ds, vs, h => by
    simp only [RelL] at h ⊢
    obtain ⟨v, vr, e1, hq, hr⟩ := h
    exact ⟨v, vr, e1, Rel.ext e d hq, RelL.ext e ds hr⟩
end
theorem RelS.ext {K H ι H1 ι1 σd σ} (e : Ext H ι H1 ι1) (h : RelS K H ι σd σ) : RelS K H1 ι1 σd σ :=
  ⟨h.1, fun i d q => let ⟨v, a, b⟩ := h.2 i d q; ⟨v, a, Rel.ext e d b⟩⟩
theorem RelL.length {K H ι} : ∀ {ds : List D} {vs : List V}, RelL K H ι ds vs → ds.length = vs.length
  | [], vs, h => by simp only [RelL] at h; subst h; rfl
  | d :: ds, vs, h => by
    simp only [RelL] at h
    obtain ⟨v, vr, rfl, _, hr⟩ := h
    simp [RelL.length hr]
theorem RelL.append {K H ι} : ∀ {ds es : List D} {vs us : List V}, RelL K H ι ds vs → RelL K H ι es us → RelL K H ι (ds ++ es) (vs ++ us)
  | [], es, vs, us, h, k => by simp only [RelL] at h; subst h; exact k
  | d :: ds, es, vs, us, h, k => by
    simp only [RelL] at h
    obtain ⟨v, vr, rfl, hv, hr⟩ := h
    simp only [List.cons_append, RelL]
    exact ⟨v, _, rfl, hv, RelL.append hr k⟩
theorem RelL.get {K H ι} : ∀ {ds : List D} {vs : List V} {i : Nat} {d : D}, RelL K H ι ds vs → ds[i]? = some d → ∃ v, vs[i]? = some v ∧ Rel K H ι d v
  | [], _, _, _, _, e => by simp at e
  | x :: ds, vs, 0, d, h, e => by
    simp only [RelL] at h
    obtain ⟨v, vr, rfl, hv, hr⟩ := h
    simp at e; subst e; exact ⟨v, rfl, hv⟩
  | x :: ds, vs, i + 1, d, h, e => by
    simp only [RelL] at h
    obtain ⟨v, vr, rfl, hv, hr⟩ := h
    obtain ⟨u, h1, h2⟩ := RelL.get (i := i) hr (by simpa using e)
    exact ⟨u, by simpa using h1, h2⟩
theorem RelL.set {K H ι d v} (hv : Rel K H ι d v) : ∀ {ds : List D} {vs : List V} (i : Nat), RelL K H ι ds vs → RelL K H ι (ds.set i d) (vs.set i v)
  | [], _, _, h => by simp only [RelL] at h; subst h; simp [RelL]
  | x :: ds, vs, 0, h => by
    simp only [RelL] at h
    obtain ⟨u, vr, rfl, hu, hr⟩ := h
    simp only [List.set_cons_zero, RelL]
    exact ⟨v, vr, rfl, hv, hr⟩
  | x :: ds, vs, i + 1, h => by
    simp only [RelL] at h
    obtain ⟨u, vr, rfl, hu, hr⟩ := h
    simp only [List.set_cons_succ, RelL]
    exact ⟨u, _, rfl, hu, RelL.set hv i hr⟩
theorem RelL.take {K H ι} : ∀ {ds : List D} {vs : List V} (n : Nat), RelL K H ι ds vs → RelL K H ι (ds.take n) (vs.take n)
  | _, _, 0, _ => by simp [RelL]
  | [], _, n + 1, h => by simp only [RelL] at h; subst h; simp [RelL]
  | x :: ds, vs, n + 1, h => by
    simp only [RelL] at h
    obtain ⟨u, vr, rfl, hu, hr⟩ := h
    simp only [List.take_succ_cons, RelL]
    exact ⟨u, _, rfl, hu, RelL.take n hr⟩
theorem RelL.drop {K H ι} : ∀ {ds : List D} {vs : List V} (n : Nat), RelL K H ι ds vs → RelL K H ι (ds.drop n) (vs.drop n)
  | _, _, 0, h => h
  | [], _, n + 1, h => by simp only [RelL] at h; subst h; simp [RelL]
  | x :: ds, vs, n + 1, h => by
    simp only [RelL] at h
    obtain ⟨u, vr, rfl, hu, hr⟩ := h
    simp only [List.drop_succ_cons]
    exact RelL.drop n hr
theorem RelG.at {K H ι g} (h : RelG K H ι g) {n : Nat} {xs : List D} {a : Addr} (e : g[n]? = some xs) (ha : ι.ix[n]? = some a) : ∃ vs, H a = some (.lst vs) ∧ RelL K H ι xs vs := by
  obtain ⟨b, vs, hb, h1, h2⟩ := h.at_ n xs e
  rw [ha] at hb; cases hb
  exact ⟨vs, h1, h2⟩
theorem RelG.trk {K H ι g} (h : RelG K H ι g) {a : Addr} (ha : a ∈ ι.ix) : H a ≠ none := by
  obtain ⟨i, hi, e⟩ := List.mem_iff_getElem.mp ha
  have hg : i < g.length := by rw [← h.len]; exact hi
  obtain ⟨b, vs, hb, h1, _⟩ := h.at_ i _ (List.getElem?_eq_getElem hg)
  rw [List.getElem?_eq_getElem hi, e] at hb
  cases hb
  rw [h1]; simp
theorem Ext.lay {H ι p o} (hp : H p = none) : Ext H ι (upd H p o) ι :=
  ⟨fun a u h _ => by rw [upd_ne (ne_of_none h hp)]; exact h, fun a h => by
    by_cases e : a = p
    · subst e; exact absurd hp h
    · rw [upd_ne e]; exact h, ⟨[], by simp, fun _ h => by simp at h⟩, rfl⟩
theorem RelG.ext {K H ι g H1} (h : RelG K H ι g) (e : Ext H ι H1 ι) (k : ∀ a ∈ ι.ix, H1 a = H a) : RelG K H1 ι g :=
  ⟨h.nd, h.len, fun b hb => ⟨(h.hid b hb).1, e.there b (h.hid b hb).2⟩, fun i xs q => by
    obtain ⟨a, vs, h1, h2, h3⟩ := h.at_ i xs q
    exact ⟨a, vs, h1, by rw [k a (List.mem_of_getElem? h1)]; exact h2, RelL.ext e xs h3⟩⟩
theorem RelG.lay {K H ι g p o} (h : RelG K H ι g) (hp : H p = none) : RelG K (upd H p o) ι g :=
  h.ext (Ext.lay hp) fun a ha => upd_ne fun e => by subst e; exact h.trk ha hp
theorem RelG.fresh {K H ι g p} (h : RelG K H ι g) (hp : H p = none) : p ∉ ι.ix := fun ha => h.trk ha hp
theorem RelG.freshH {K H ι g p} (h : RelG K H ι g) (hp : H p = none) : p ∉ ι.hd := fun ha => (h.hid p ha).2 hp
theorem Ext.push {H ι p o} (hp : H p = none) : Ext H ι (upd H p o) ⟨ι.ix ++ [p], ι.hd⟩ := by
  have e := Ext.lay (ι := ι) (o := o) hp
  exact ⟨e.same, e.there, ⟨[p], rfl, fun a ha => by simp at ha; subst ha; exact hp⟩, rfl⟩
theorem RelG.push {K H ι g p xs vs} (h : RelG K H ι g) (hp : H p = none) (r : RelL K H ι xs vs) : RelG K (upd H p (.lst vs)) ⟨ι.ix ++ [p], ι.hd⟩ (g ++ [xs]) := by
  have hn := h.fresh hp
  refine ⟨?_, by simp [h.len], fun b hb => ⟨fun z => ?_, (Ext.push (ι := ι) (o := .lst vs) hp).there b (h.hid b hb).2⟩, fun i ys q => ?_⟩
  · show (ι.ix ++ [p]).Nodup
    rw [List.nodup_append]
    refine ⟨h.nd, by simp, fun a ha b hb => ?_⟩
    simp at hb; subst hb
    intro e; subst e; exact hn ha
  · rcases List.mem_append.mp z with z | z
    · exact (h.hid b hb).1 z
    · simp at z; subst z; exact (h.hid _ hb).2 hp
  · by_cases hi : i < g.length
    · rw [List.getElem?_append_left hi] at q
      obtain ⟨a, us, h1, h2, h3⟩ := h.at_ i ys q
      refine ⟨a, us, (by show (ι.ix ++ [p])[i]? = some a; rw [List.getElem?_append_left (by rw [h.len]; exact hi)]; exact h1), ?_, RelL.ext (Ext.push hp) ys h3⟩
      rw [upd_ne (ne_of_none h2 hp)]; exact h2
    · rw [List.getElem?_append_right (by omega)] at q
      have hi0 : i - g.length = 0 := by
        cases e : i - g.length with
        | zero => rfl
        | succ k => rw [e] at q; simp at q
      rw [hi0] at q
      have e : xs = ys := by simpa using q
      subst e
      refine ⟨p, vs, ?_, upd_same, RelL.ext (Ext.push hp) xs r⟩
      show (ι.ix ++ [p])[i]? = some p
      rw [List.getElem?_append_right (by rw [h.len]; omega), h.len, hi0]; rfl
theorem Ext.put {H ι} {n : Nat} {a vs ws} (ha : ι.ix[n]? = some a) (h : H a = some (.lst vs)) : Ext H ι (upd H a (.lst ws)) ι :=
  ⟨fun b o q nb => by rw [upd_ne (fun e => nb (by rw [e]; exact List.mem_of_getElem? ha))]; exact q, fun b q => by
    by_cases e : b = a
    · subst e; rw [upd_same]; simp
    · rw [upd_ne e]; exact q, ⟨[], by simp, fun _ z => by simp at z⟩, rfl⟩
theorem RelG.put {K H ι g} {n : Nat} {a vs xs ws} (h : RelG K H ι g) (ha : ι.ix[n]? = some a) (hv : H a = some (.lst vs)) (r : RelL K H ι xs ws) : RelG K (upd H a (.lst ws)) ι (g.set n xs) := by
  refine ⟨h.nd, by simp [h.len], fun b hb => ⟨(h.hid b hb).1, (Ext.put ha hv).there b (h.hid b hb).2⟩, fun i ys q => ?_⟩
  by_cases e : i = n
  · subst e
    have hi : i < g.length := by rw [← h.len]; exact (List.getElem?_eq_some_iff.mp ha).1
    rw [List.getElem?_set_self hi] at q
    cases q
    exact ⟨a, ws, ha, upd_same, RelL.ext (Ext.put ha hv) _ r⟩
  · rw [List.getElem?_set_ne (Ne.symm e)] at q
    obtain ⟨b, us, h1, h2, h3⟩ := h.at_ i ys q
    refine ⟨b, us, h1, ?_, RelL.ext (Ext.put ha hv) ys h3⟩
    rw [upd_ne ?_]
    · exact h2
    · intro z
      subst z
      obtain ⟨hi, e1⟩ := List.getElem?_eq_some_iff.mp h1
      obtain ⟨hn, e2⟩ := List.getElem?_eq_some_iff.mp ha
      exact e ((List.getElem_inj h.nd).mp (e1.trans e2.symm))
def Ix.hide (ι : Ix) (p : Addr) : Ix := ⟨ι.ix, p :: ι.hd⟩
mutual
theorem Rel.show {K H ι p} : ∀ (d : D) {v : V}, Rel K H (Ix.hide ι p) d v → Rel K H ι d v
  | .non, v, h => by simpa [Rel] using h
  | .bl _, v, h => by simpa [Rel] using h
  | .int _, v, h => by simpa [Rel] using h
  | .str _, v, h => by simpa [Rel] using h
  | .tup xs, v, h => by
    simp only [Rel] at h ⊢
    obtain ⟨a, vs, e1, hq, hr⟩ := h
    exact ⟨a, vs, e1, hq, RelL.show xs hr⟩
  | .lst xs, v, h => by
    simp only [Rel] at h ⊢
    obtain ⟨a, vs, e1, hq, hr⟩ := h
    refine ⟨a, vs, e1, ?_, RelL.show xs hr⟩
    rcases hq with ⟨h, n, k⟩ | h
    · exact .inl ⟨h, n, fun z => k (List.mem_cons_of_mem _ z)⟩
    · exact .inr h
  | .edc, v, h => by simpa [Rel, Ix.hide] using h
  | .ref n, v, h => by simpa [Rel, Ix.hide] using h
theorem RelL.show {K H ι p} : ∀ (ds : List D) {vs : List V}, RelL K H (Ix.hide ι p) ds vs → RelL K H ι ds vs
  | [], vs, h => by simpa [RelL] using h
  | d :: ds, vs, h => by
    simp only [RelL] at h ⊢
    obtain ⟨v, vr, e1, hq, hr⟩ := h
    exact ⟨v, vr, e1, Rel.show d hq, RelL.show ds hr⟩
end
mutual
theorem Rel.hide {K H ι p o} (hp : H p = none) : ∀ (d : D) {v : V}, Rel K H ι d v → Rel K (upd H p o) (Ix.hide ι p) d v
  | .non, v, h => by simpa [Rel] using h
  | .bl _, v, h => by simpa [Rel] using h
  | .int _, v, h => by simpa [Rel] using h
  | .str _, v, h => by simpa [Rel] using h
  | .tup xs, v, h => by
    simp only [Rel] at h ⊢
    obtain ⟨a, vs, e1, hq, hr⟩ := h
    refine ⟨a, vs, e1, ?_, RelL.hide hp xs hr⟩
    rcases hq with ⟨h | ⟨u, h⟩, n⟩ | h
    · exact .inl ⟨.inl (by rw [upd_ne (ne_of_none h hp)]; exact h), n⟩
    · exact .inl ⟨.inr ⟨u, by rw [upd_ne (ne_of_none h hp)]; exact h⟩, n⟩
    · exact .inr h
  | .lst xs, v, h => by
    simp only [Rel] at h ⊢
    obtain ⟨a, vs, e1, hq, hr⟩ := h
    refine ⟨a, vs, e1, ?_, RelL.hide hp xs hr⟩
    have out : ∀ {u : HO}, H a = some u → a ∉ ι.hd → a ∉ (Ix.hide ι p).hd := fun h k z => by
      rcases List.mem_cons.mp z with z | z
      · exact ne_of_none h hp z
      · exact k z
    rcases hq with ⟨h | ⟨u, h⟩, n, k⟩ | h
    · exact .inl ⟨.inl (by rw [upd_ne (ne_of_none h hp)]; exact h), n, out h k⟩
    · exact .inl ⟨.inr ⟨u, by rw [upd_ne (ne_of_none h hp)]; exact h⟩, n, out h k⟩
    · exact .inr h
  | .edc, v, h => by
    simp only [Rel] at h ⊢
    obtain ⟨a, e1, hq, hr⟩ := h
    exact ⟨a, e1, by rw [upd_ne (ne_of_none hq hp)]; exact hq, hr⟩
  | .ref n, v, h => by simpa [Rel, Ix.hide] using h
theorem RelL.hide {K H ι p o} (hp : H p = none) : ∀ (ds : List D) {vs : List V}, RelL K H ι ds vs → RelL K (upd H p o) (Ix.hide ι p) ds vs
  | [], vs, h => by simpa [RelL] using h
  | d :: ds, vs, h => by
    simp only [RelL] at h ⊢
    obtain ⟨v, vr, e1, hq, hr⟩ := h
    exact ⟨v, vr, e1, Rel.hide hp d hq, RelL.hide hp ds hr⟩
end
mutual
theorem Rel.grow {K H ι p us ws} (hp : H p = some (.lst us)) : ∀ (d : D) {v : V}, Rel K H (Ix.hide ι p) d v → Rel K (upd H p (.lst ws)) (Ix.hide ι p) d v
  | .non, v, h => by simpa [Rel] using h
  | .bl _, v, h => by simpa [Rel] using h
  | .int _, v, h => by simpa [Rel] using h
  | .str _, v, h => by simpa [Rel] using h
  | .tup xs, v, h => by
    simp only [Rel] at h ⊢
    obtain ⟨a, vs, e1, hq, hr⟩ := h
    refine ⟨a, vs, e1, ?_, RelL.grow hp xs hr⟩
    rcases hq with ⟨h | ⟨u, h⟩, n⟩ | h
    · exact .inl ⟨.inl (by rw [upd_ne (ne_of h hp (by simp))]; exact h), n⟩
    · exact .inl ⟨.inr ⟨u, by rw [upd_ne (ne_of h hp (by simp))]; exact h⟩, n⟩
    · exact .inr h
  | .lst xs, v, h => by
    simp only [Rel] at h ⊢
    obtain ⟨a, vs, e1, hq, hr⟩ := h
    refine ⟨a, vs, e1, ?_, RelL.grow hp xs hr⟩
    rcases hq with ⟨h, n, k⟩ | h
    · have ne : a ≠ p := fun z => k (by rw [z]; exact List.mem_cons_self)
      rcases h with h | ⟨u, h⟩
      · exact .inl ⟨.inl (by rw [upd_ne ne]; exact h), n, k⟩
      · exact .inl ⟨.inr ⟨u, by rw [upd_ne ne]; exact h⟩, n, k⟩
    · exact .inr h
  | .edc, v, h => by
    simp only [Rel] at h ⊢
    obtain ⟨a, e1, hq, hr⟩ := h
    exact ⟨a, e1, by rw [upd_ne (ne_of hq hp (by simp))]; exact hq, hr⟩
  | .ref n, v, h => by simpa [Rel, Ix.hide] using h
theorem RelL.grow {K H ι p us ws} (hp : H p = some (.lst us)) : ∀ (ds : List D) {vs : List V}, RelL K H (Ix.hide ι p) ds vs → RelL K (upd H p (.lst ws)) (Ix.hide ι p) ds vs
  | [], vs, h => by simpa [RelL] using h
  | d :: ds, vs, h => by
    simp only [RelL] at h ⊢
    obtain ⟨v, vr, e1, hq, hr⟩ := h
    exact ⟨v, vr, e1, Rel.grow hp d hq, RelL.grow hp ds hr⟩
end
theorem RelG.hide {K H ι p o g} (hp : H p = none) (h : RelG K H ι g) : RelG K (upd H p o) (Ix.hide ι p) g :=
  ⟨h.nd, h.len, fun b hb => by
    rcases List.mem_cons.mp hb with rfl | hb
    · exact ⟨h.fresh hp, by rw [upd_same]; simp⟩
    · refine ⟨(h.hid b hb).1, ?_⟩
      by_cases e : b = p
      · subst e; rw [upd_same]; simp
      · rw [upd_ne e]; exact (h.hid b hb).2, fun i xs q => by
    obtain ⟨a, vs, h1, h2, h3⟩ := h.at_ i xs q
    exact ⟨a, vs, h1, by rw [upd_ne (ne_of_none h2 hp)]; exact h2, RelL.hide hp xs h3⟩⟩
theorem RelG.show {K H ι p g} (h : RelG K H (Ix.hide ι p) g) : RelG K H ι g :=
  ⟨h.nd, h.len, fun b hb => h.hid b (List.mem_cons_of_mem _ hb), fun i xs q => by
    obtain ⟨a, vs, h1, h2, h3⟩ := h.at_ i xs q
    exact ⟨a, vs, h1, h2, RelL.show xs h3⟩⟩
theorem RelG.grow {K H ι p us ws g} (hp : H p = some (.lst us)) (h : RelG K H (Ix.hide ι p) g) : RelG K (upd H p (.lst ws)) (Ix.hide ι p) g :=
  ⟨h.nd, h.len, fun b hb => ⟨(h.hid b hb).1, by
      by_cases e : b = p
      · subst e; rw [upd_same]; simp
      · rw [upd_ne e]; exact (h.hid b hb).2⟩, fun i xs q => by
    obtain ⟨a, vs, h1, h2, h3⟩ := h.at_ i xs q
    refine ⟨a, vs, h1, ?_, RelL.grow hp xs h3⟩
    rw [upd_ne (fun e => (h.hid p List.mem_cons_self).1 (by rw [← e]; exact List.mem_of_getElem? h1))]; exact h2⟩
end L3
namespace L3
open PySem PySem.Spec PyProof.Rows L2
abbrev FE := Sg → G → Option (D × G)
abbrev FT := Sg → G → Option (Bool × G)
abbrev FA := Sg → G → Option (List D × G)
def Post (K : PySem.W.Frag) (H : Hp) (ι : Ix) (d : D) (g' : G) (Q : VK) : Prop := ∀ H' ι' v, Ext H ι H' ι' → RelG K H' ι' g' → Rel K H' ι' d v → Q v H'
def PostL (K : PySem.W.Frag) (H : Hp) (ι : Ix) (ds : List D) (g' : G) (Q : List V → Hp → Prop) : Prop := ∀ H' ι' vs, Ext H ι H' ι' → RelG K H' ι' g' → RelL K H' ι' ds vs → Q vs H'
def PostB (K : PySem.W.Frag) (H : Hp) (ι : Ix) (g' : G) (Q : Hp → Prop) : Prop := ∀ H' ι', Ext H ι H' ι' → RelG K H' ι' g' → Q H'
inductive tD (K : PySem.W.Frag) (f : FE)  (σ : L2.St) (H : Hp) (Q : VK) : Prop
  | mk (ι : Ix) (σd : Sg) (g : G) (d : D) (g' : G) (h0 : RelG K H ι g) (h1 : RelS K H ι σd σ) (h2 : f σd g = some (d, g')) (h3 : Post K H ι d g' Q) : tD K f σ H Q
inductive tDA (K : PySem.W.Frag) (f : FA)  (σ : L2.St) (H : Hp) (Q : (List V → Hp → Prop)) : Prop
  | mk (ι : Ix) (σd : Sg) (g : G) (d : List D) (g' : G) (h0 : RelG K H ι g) (h1 : RelS K H ι σd σ) (h2 : f σd g = some (d, g')) (h3 : PostL K H ι d g' Q) : tDA K f σ H Q
inductive tDT (K : PySem.W.Frag) (f : FT)  (σ : L2.St) (H : Hp) (Q : (Bool → Hp → Prop)) : Prop
  | mk (ι : Ix) (σd : Sg) (g : G) (b : Bool) (g' : G) (h0 : RelG K H ι g) (h1 : RelS K H ι σd σ) (h2 : f σd g = some (b, g')) (h3 : PostB K H ι g' (Q b)) : tDT K f σ H Q
structure DE (X : Cx) (e : Expr) (f : FE) : Prop where of ::
  un : PE X e (tD X.K f)
structure DA (X : Cx) (es : List Expr) (f : FA) : Prop where of ::
  un : PA X es (tDA X.K f)
structure DT (X : Cx) (e : Expr) (f : FT) : Prop where of ::
  un : PT X e (tDT X.K f)
structure DW (X : Cx) (e : Expr) (f : FT) : Prop where of ::
  un : PW X e (tDT X.K f)
theorem PE.imp {X : Cx} {e : Expr} {t t' : TE} (h : PE X e t) (i : ∀ σ H Q, t' σ H Q → t σ H Q) : PE X e t' := fun pins s σ H Q I q => h pins s σ H Q I (i σ H Q q)
theorem PT.imp {X : Cx} {e : Expr} {t t' : TT} (h : PT X e t) (i : ∀ σ H Q, t' σ H Q → t σ H Q) : PT X e t' := fun pins s σ H Q I q => h pins s σ H Q I (i σ H Q q)
theorem PW.imp {X : Cx} {e : Expr} {t t' : TT} (h : PW X e t) (i : ∀ σ H Q, t' σ H Q → t σ H Q) : PW X e t' := fun w pins s σ H Q I q => h w pins s σ H Q I (i σ H Q q)
theorem PA.imp {X : Cx} {e : List Expr} {t t' : TA} (h : PA X e t) (i : ∀ σ H Q, t' σ H Q → t σ H Q) : PA X e t' := fun pos pins s σ H Q I q => h pos pins s σ H Q I (i σ H Q q)
theorem Post.mono {K H ι H1 ι1 d g' Q} (e : Ext H ι H1 ι1) (p : Post K H ι d g' Q) : Post K H1 ι1 d g' Q := fun H' ι' v e' r q => p H' ι' v (e.trans e') r q
theorem PostB.mono {K H ι H1 ι1 g' Q} (e : Ext H ι H1 ι1) (p : PostB K H ι g' Q) : PostB K H1 ι1 g' Q := fun H' ι' e' r => p H' ι' (e.trans e') r
theorem tD.bind {K f} {σ : L2.St} {H : Hp} {Q : VK} {ι σd g d g'} (G0 : RelG K H ι g) (S0 : RelS K H ι σd σ) (h : f σd g = some (d, g'))
    (k : ∀ H1 ι1 v, Ext H ι H1 ι1 → RelG K H1 ι1 g' → RelS K H1 ι1 σd σ → Rel K H1 ι1 d v → Q v H1) : tD K f σ H Q :=
  ⟨ι, σd, g, d, g', G0, S0, h, fun H' ι' v e r q => k H' ι' v e r (S0.ext e) q⟩
theorem tDA.bind {K f} {σ : L2.St} {H : Hp} {Q : List V → Hp → Prop} {ι σd g d g'} (G0 : RelG K H ι g) (S0 : RelS K H ι σd σ) (h : f σd g = some (d, g'))
    (k : ∀ H1 ι1 v, Ext H ι H1 ι1 → RelG K H1 ι1 g' → RelS K H1 ι1 σd σ → RelL K H1 ι1 d v → Q v H1) : tDA K f σ H Q :=
  ⟨ι, σd, g, d, g', G0, S0, h, fun H' ι' v e r q => k H' ι' v e r (S0.ext e) q⟩
theorem tDT.bind {K f} {σ : L2.St} {H : Hp} {Q : Bool → Hp → Prop} {ι σd g d g'} (G0 : RelG K H ι g) (S0 : RelS K H ι σd σ) (h : f σd g = some (d, g'))
    (k : ∀ H1 ι1, Ext H ι H1 ι1 → RelG K H1 ι1 g' → RelS K H1 ι1 σd σ → Q d H1) : tDT K f σ H Q :=
  ⟨ι, σd, g, d, g', G0, S0, h, fun H' ι' e r => k H' ι' e r (S0.ext e)⟩
section
variable {X : Cx} {a b c e : Expr} {es rest : List Expr} {pos : Pos} {fa fb fc : FE} {fr : FA} {ga gb : FT}
def fC (d : D) : FE := fun _ g => some (d, g)
def fVar (i : Nat) : FE := fun σ g => match σ[i]? with | some (some d) => some (d, g) | _ => none
theorem de_int {i j pos} : DE X (.Constant (.int i) j pos) (fC (.int i)) := .of (PE.imp pe_int fun σ H Q h => by
  obtain ⟨ι, σd, g, d, g', G0, S0, h, p⟩ := h
  cases h; exact p H ι _ Ext.refl G0 (by simp [Rel]))
theorem de_str {i j pos} : DE X (.Constant (.str i) j pos) (fC (.str i)) := .of (PE.imp pe_str fun σ H Q h => by
  obtain ⟨ι, σd, g, d, g', G0, S0, h, p⟩ := h
  cases h; exact p H ι _ Ext.refl G0 (by simp [Rel]))
theorem de_bl {i j pos} : DE X (.Constant (.bool i) j pos) (fC (.bl i)) := .of (PE.imp pe_bl fun σ H Q h => by
  obtain ⟨ι, σd, g, d, g', G0, S0, h, p⟩ := h
  cases h; exact p H ι _ Ext.refl G0 (by simp [Rel]))
theorem de_non {j pos} : DE X (.Constant .none j pos) (fC .non) := .of (PE.imp pe_non fun σ H Q h => by
  obtain ⟨ι, σd, g, d, g', G0, S0, h, p⟩ := h
  cases h; exact p H ι _ Ext.refl G0 (by simp [Rel]))
theorem de_var (i : Nat) {x : Str} {pos : Pos} (hN : X.N[i]? = some x := by rfl) (hv : Vis X.env.scope x := by first | exact Or.inl rfl | exact Or.inr (Or.inl rfl) | exact Or.inr (Or.inr rfl)) (hd : (x == ("__debug__" : Str)) = false := by decide)
    (hcd : (x == ("__classdict__" : Str)) = false := by decide) : DE X (.Name x pos) (fVar i) := .of (PE.imp (pe_var hN hv hd hcd) fun σ H Q h => by
  obtain ⟨ι, σd, g, d, g', G0, S0, h, p⟩ := h
  unfold fVar at h
  split at h
  · rename_i d' e
    obtain ⟨rfl, rfl⟩ : d' = d ∧ g = g' := by cases h; exact ⟨rfl, rfl⟩
    obtain ⟨v, h1, h2⟩ := S0.2 i _ e
    exact ⟨v, h1, p H ι v Ext.refl G0 h2⟩
  · cases h)
theorem de_glob {x : Str} {v : V} {u : Value} {d : D} (hg : Gl X x) (hm : X.mg x = some u) (r : RelV v u) (rd : ∀ K H ι, Rel K H ι d v) (hd : (x == ("__debug__" : Str)) = false := by decide) : DE X (.Name x pos) (fC d) := .of (
  PE.imp (pe_glob hg hm r hd) fun σ H Q h => by
    obtain ⟨ι, σd, g, d, g', G0, S0, h, p⟩ := h
    cases h; exact p H ι _ Ext.refl G0 (rd _ _ _))
inductive rD2 (K : PySem.W.Frag) (o : D → D → G → Option (D × G))  (x : V) (y : V) (H : Hp) (Q : VK) : Prop
  | mk (ι : Ix) (g : G) (d1 : D) (d2 : D) (d : D) (g' : G) (h0 : RelG K H ι g) (h1 : Rel K H ι d1 x) (h2 : Rel K H ι d2 y) (h3 : o d1 d2 g = some (d, g')) (h4 : Post K H ι d g' Q) : rD2 K o x y H Q
inductive rD1 (K : PySem.W.Frag) (o : D → G → Option (D × G))  (x : V) (H : Hp) (Q : VK) : Prop
  | mk (ι : Ix) (g : G) (d1 : D) (d : D) (g' : G) (h0 : RelG K H ι g) (h1 : Rel K H ι d1 x) (h2 : o d1 g = some (d, g')) (h3 : Post K H ι d g' Q) : rD1 K o x H Q
inductive rDL (K : PySem.W.Frag) (o : List D → G → Option (D × G))  (xs : List V) (H : Hp) (Q : VK) : Prop
  | mk (ι : Ix) (g : G) (ds : List D) (d : D) (g' : G) (h0 : RelG K H ι g) (h1 : RelL K H ι ds xs) (h2 : o ds g = some (d, g')) (h3 : Post K H ι d g' Q) : rDL K o xs H Q
def fOp (o : D → D → G → Option (D × G)) (fa fb : FE) : FE := fun σ g => (fa σ g).bind fun r => (fb σ r.2).bind fun q => o r.1 q.1 q.2
def fUn (o : D → G → Option (D × G)) (fa : FE) : FE := fun σ g => (fa σ g).bind fun r => o r.1 r.2
theorem bind_some {α β : Type} {x : Option α} {f : α → Option β} {b : β} (h : x.bind f = some b) : ∃ a, x = some a ∧ f a = some b := by
  cases x with
  | none => cases h
  | some a => exact ⟨a, rfl, h⟩
theorem tOp_of {K} {o : D → D → G → Option (D × G)} {σ : L2.St} {H : Hp} {Q : VK} (h : tD K (fOp o fa fb) σ H Q) : tOp (rD2 K o) (tD K fa) (tD K fb) σ H Q := by
  obtain ⟨ι, σd, g, d, g', G0, S0, h, p⟩ := h
  obtain ⟨⟨d1, g1⟩, h1, h⟩ := bind_some h
  obtain ⟨⟨d2, g2⟩, h2, h⟩ := bind_some h
  refine tD.bind G0 S0 h1 fun H1 ι1 v e1 G1 S1 r1 => ?_
  refine tD.bind G1 S1 h2 fun H2 ι2 u e2 G2 S2 r2 => ?_
  exact ⟨ι2, g2, d1, d2, d, g', G2, Rel.ext e2 _ r1, r2, h, p.mono (e1.trans e2)⟩
theorem de_op {op : Operator} {o : D → D → G → Option (D × G)} (ho : OpR X (binaryOp op) (rD2 X.K o)) (ha : DE X a fa) (hb : DE X b fb) : DE X (.BinOp a op b pos) (fOp o fa fb) := .of (
  PE.imp (pe_op ho ha.un hb.un) fun σ H Q h => tOp_of h)
theorem de_cmp {op : CmpOp} {o : D → D → G → Option (D × G)} (ho : OpR X (compareOp op) (rD2 X.K o)) (ha : DE X a fa) (hb : DE X b fb) (hm : behindInMarks op b = false := by first | exact nomark _ | with_unfolding_all rfl) : DE X (.Compare a [op] [b] pos) (fOp o fa fb) := .of (
  PE.imp (pe_cmpR ho ha.un hb.un hm) fun σ H Q h => tOp_of h)
theorem de_un {op : UnaryOp} {o : D → G → Option (D × G)} (ho : UnR X (unaryOp op) (rD1 X.K o)) (ha : DE X a fa) : DE X (.UnaryOp op a pos) (fUn o fa) := .of (
  PE.imp (pe_un ho ha.un) fun σ H Q h => by
    obtain ⟨ι, σd, g, d, g', G0, S0, h, p⟩ := h
    obtain ⟨⟨d1, g1⟩, h1, h⟩ := bind_some h
    refine tD.bind G0 S0 h1 fun H1 ι1 v e1 G1 S1 r1 => ?_
    exact ⟨ι1, g1, d1, d, g', G1, r1, h, p.mono e1⟩)
def asB (r : Option (D × G)) : Option (Bool × G) := r.bind fun r => match r.1 with | .bl b => some (b, r.2) | _ => none
theorem asB_some {r : Option (D × G)} {b : Bool} {g : G} (h : asB r = some (b, g)) : r = some (.bl b, g) := by
  obtain ⟨⟨d, g1⟩, h1, h⟩ := bind_some h
  cases d with
  | bl k => cases h; exact h1
  | _ => cases h
def fTest (f : FE) : FT := fun σ g => asB (f σ g)
theorem tTest_of {K f} {σ : L2.St} {H : Hp} {Q : Bool → Hp → Prop} (h : tDT K (fTest f) σ H Q) : tTest (tD K f) σ H Q := by
  obtain ⟨ι, σd, g, b, g', G0, S0, h, p⟩ := h
  obtain ⟨⟨d, g1⟩, h1, h⟩ := bind_some h
  cases d with
  | bl k =>
    cases h
    exact tD.bind G0 S0 h1 fun H1 ι1 v e1 G1 S1 r1 => ⟨b, by simpa [Rel] using r1, p H1 ι1 e1 G1⟩
  | _ => cases h
theorem tTest_mono {t t' : TE} (i : ∀ σ H Q, t' σ H Q → t σ H Q) {σ : L2.St} {H : Hp} {Q : Bool → Hp → Prop} (h : tTest t' σ H Q) : tTest t σ H Q := i σ H _ h
theorem dt_cmp {op : CmpOp} {o : D → D → G → Option (D × G)} (ho : OpR X (compareOp op) (rD2 X.K o)) (ha : DE X a fa) (hb : DE X b fb) (hm : behindInMarks op b = false := by first | exact nomark _ | with_unfolding_all rfl) : DT X (.Compare a [op] [b] pos) (fTest (fOp o fa fb)) := .of (
  PT.imp (pt_cmpR ho ha.un hb.un hm) fun σ H Q h => tTest_mono (fun _ _ _ => tOp_of) (tTest_of h))
def fChain (o o' : D → D → G → Option (D × G)) (fa fb fc : FE) : FE := fun σ g => (fa σ g).bind fun r => (fb σ r.2).bind fun q => (asB (o r.1 q.1 q.2)).bind fun k =>
  if k.1 = true then (fc σ k.2).bind fun w => o' q.1 w.1 w.2 else some (.bl false, k.2)
theorem tChain_of {K} {o o' : D → D → G → Option (D × G)} {σ : L2.St} {H : Hp} {Q : VK} (h : tD K (fChain o o' fa fb fc) σ H Q) : tChain (rD2 K o) (rD2 K o') (tD K fa) (tD K fb) (tD K fc) σ H Q := by
  obtain ⟨ι, σd, g, d, g', G0, S0, h, p⟩ := h
  obtain ⟨⟨d1, g1⟩, h1, h⟩ := bind_some h
  obtain ⟨⟨d2, g2⟩, h2, h⟩ := bind_some h
  obtain ⟨⟨k, g3⟩, h3, h⟩ := bind_some h
  have h3 := asB_some h3
  refine tD.bind G0 S0 h1 fun H1 ι1 v e1 G1 S1 r1 => ?_
  refine tD.bind G1 S1 h2 fun H2 ι2 u e2 G2 S2 r2 => ?_
  refine ⟨ι2, g2, d1, d2, _, g3, G2, Rel.ext e2 _ r1, r2, h3, fun H3 ι3 z e3 G3 r3 => ⟨k, by simpa [Rel] using r3, ?_⟩⟩
  clear h3
  cases k with
  | true =>
    simp only [if_true] at h ⊢
    obtain ⟨⟨d4, g4⟩, h4, h⟩ := bind_some h
    refine tD.bind G3 (S2.ext e3) h4 fun H4 ι4 w' e4 G4 S4 r4 => ?_
    exact ⟨ι4, g4, d2, d4, d, g', G4, Rel.ext (e3.trans e4) _ r2, r4, h, p.mono (e1.trans (e2.trans (e3.trans e4)))⟩
  | false =>
    simp only [Bool.false_eq_true, if_false] at h ⊢
    cases h
    exact p H3 ι3 _ (e1.trans (e2.trans e3)) G3 (by simp [Rel])
theorem de_chain {op op' : CmpOp} {o o' : D → D → G → Option (D × G)} (ho : OpR X (compareOp op) (rD2 X.K o)) (ho' : OpR X (compareOp op') (rD2 X.K o')) (ha : DE X a fa) (hb : DE X b fb) (hc : DE X c fc)
    (hm : lastMarks [op, op'] [b, c] = false := by with_unfolding_all rfl) : DE X (.Compare a [op, op'] [b, c] pos) (fChain o o' fa fb fc) := .of (
  PE.imp (pe_chain ho ho' ha.un hb.un hc.un hm) fun σ H Q h => tChain_of h)
def truD (d : D) (g : G) : Option Bool := match d with
  | .non => some false
  | .bl b => some b
  | .int i => some (i != 0)
  | .tup xs => some (!xs.isEmpty)
  | .lst xs => some (!xs.isEmpty)
  | .edc => some false
  | .ref n => match g[n]? with | some xs => some (!xs.isEmpty) | none => none
  | .str _ => none
def fTru (f : FE) : FT := fun σ g => (f σ g).bind fun r => (truD r.1 r.2).map fun b => (b, r.2)
theorem RelL.isEmpty {K H ι} {ds : List D} {vs : List V} (h : RelL K H ι ds vs) : ds.isEmpty = vs.isEmpty := by
  have := h.length
  cases ds <;> cases vs <;> simp_all
theorem truV_of {K H ι g d v b} (G0 : RelG K H ι g) (r : Rel K H ι d v) (h : truD d g = some b) : TruV K v H b := by
  cases d with
  | non => simp only [Rel] at r; subst r; cases h; rfl
  | bl x => simp only [Rel] at r; subst r; cases h; rfl
  | int x => simp only [Rel] at r; subst r; cases h; rfl
  | str x => cases h
  | tup xs =>
    simp only [Rel] at r; obtain ⟨a, vs, rfl, hq, hr⟩ := r; cases h
    exact .inr (.inl ⟨vs, hq.sq, by rw [hr.isEmpty]⟩)
  | lst xs =>
    simp only [Rel] at r; obtain ⟨a, vs, rfl, hq, hr⟩ := r; cases h
    exact .inl ⟨vs, hq.sq, by rw [hr.isEmpty]⟩
  | edc =>
    simp only [Rel] at r; obtain ⟨a, rfl, hq, _⟩ := r; cases h
    exact .inr (.inr ⟨[], hq, rfl⟩)
  | ref n =>
    simp only [Rel] at r; obtain ⟨a, rfl, ha⟩ := r
    simp only [truD] at h
    split at h
    · rename_i xs e
      cases h
      obtain ⟨vs, h1, h2⟩ := G0.at e ha
      exact .inl ⟨vs, .of h1, by rw [h2.isEmpty]⟩
    · cases h
theorem dt_tru (ha : DE X a fa) (he : ∀ whole, isTrue a X.env whole = (do let v ← whole; standAt a.pos; holding [v] (truthy v)) := by intro _; rfl) : DT X a (fTru fa) := .of (
  PT.imp (pt_truth ha.un he) fun σ H Q h => by
    obtain ⟨ι, σd, g, b, g', G0, S0, h, p⟩ := h
    obtain ⟨⟨d, g1⟩, h1, h⟩ := bind_some h
    cases ht : truD d g1 with
    | none => rw [ht] at h; cases h
    | some k =>
      rw [ht] at h; cases h
      exact tD.bind G0 S0 h1 fun H1 ι1 v e1 G1 S1 r1 => ⟨b, truV_of G1 r1 ht, p H1 ι1 e1 G1⟩)
def fAnd (ga gb : FT) : FT := fun σ g => (ga σ g).bind fun r => if r.1 = true then gb σ r.2 else some (false, r.2)
def fOr (ga gb : FT) : FT := fun σ g => (ga σ g).bind fun r => if r.1 = true then some (true, r.2) else gb σ r.2
def fNot (ga : FT) : FT := fun σ g => (ga σ g).bind fun r => some (!r.1, r.2)
theorem dw_and1 (ha : DT X a ga) : DW X (.BoolOp .And [a] pos) ga := .of (pw_and1 ha.un)
theorem dw_or1 (ha : DT X a ga) : DW X (.BoolOp .Or [a] pos) ga := .of (pw_or1 ha.un)
theorem dw_and (ha : DT X a ga) (hb : DW X (.BoolOp .And (b :: rest) pos) gb) : DW X (.BoolOp .And (a :: b :: rest) pos) (fAnd ga gb) := .of (
  PW.imp (pw_and ha.un hb.un) fun σ H Q h => by
    obtain ⟨ι, σd, g, k, g', G0, S0, h, p⟩ := h
    obtain ⟨⟨k1, g1⟩, h1, h⟩ := bind_some h
    refine tDT.bind G0 S0 h1 fun H1 ι1 e1 G1 S1 => ?_
    cases k1 with
    | true => simp only [if_true] at h ⊢; exact ⟨ι1, σd, g1, k, g', G1, S1, h, p.mono e1⟩
    | false => simp only [Bool.false_eq_true, if_false] at h ⊢; cases h; exact p H1 ι1 e1 G1)
theorem dw_or (ha : DT X a ga) (hb : DW X (.BoolOp .Or (b :: rest) pos) gb) : DW X (.BoolOp .Or (a :: b :: rest) pos) (fOr ga gb) := .of (
  PW.imp (pw_or ha.un hb.un) fun σ H Q h => by
    obtain ⟨ι, σd, g, k, g', G0, S0, h, p⟩ := h
    obtain ⟨⟨k1, g1⟩, h1, h⟩ := bind_some h
    refine tDT.bind G0 S0 h1 fun H1 ι1 e1 G1 S1 => ?_
    cases k1 with
    | false => simp only [Bool.false_eq_true, if_false] at h ⊢; exact ⟨ι1, σd, g1, k, g', G1, S1, h, p.mono e1⟩
    | true => simp only [if_true] at h ⊢; cases h; exact p H1 ι1 e1 G1)
theorem DW.dt (h : DW X a ga) : DT X a ga := .of (PW.pt h.un)
theorem dt_not (ha : DT X a ga) : DT X (.UnaryOp .Not a pos) (fNot ga) := .of (
  PT.imp (pt_not ha.un) fun σ H Q h => by
    obtain ⟨ι, σd, g, k, g', G0, S0, h, p⟩ := h
    obtain ⟨⟨k1, g1⟩, h1, h⟩ := bind_some h
    cases h
    exact tDT.bind G0 S0 h1 fun H1 ι1 e1 G1 S1 => p H1 ι1 e1 G1)
def fAndV (fa fb : FE) : FE := fun σ g => (asB (fa σ g)).bind fun r => if r.1 = true then fb σ r.2 else some (.bl false, r.2)
def fOrV (fa fb : FE) : FE := fun σ g => (asB (fa σ g)).bind fun r => if r.1 = true then some (.bl true, r.2) else fb σ r.2
def fNotV (fa : FE) : FE := fun σ g => (asB (fa σ g)).bind fun r => some (.bl (!r.1), r.2)
theorem de_one {op} (h : DE X a fa) : DE X (.BoolOp op [a] pos) fa := .of (pe_one h.un)
theorem de_and (ha : DE X a fa) (hb : DE X (.BoolOp .And (b :: rest) pos) fb) : DE X (.BoolOp .And (a :: b :: rest) pos) (fAndV fa fb) := .of (
  PE.imp (pe_and ha.un hb.un) fun σ H Q h => by
    obtain ⟨ι, σd, g, d, g', G0, S0, h, p⟩ := h
    obtain ⟨⟨k1, g1⟩, h1, h⟩ := bind_some h
    have h1 := asB_some h1
    refine tD.bind G0 S0 h1 fun H1 ι1 v e1 G1 S1 r1 => ⟨k1, by simpa [Rel] using r1, ?_⟩
    cases k1 with
    | true => simp only [if_true] at h ⊢; exact ⟨ι1, σd, g1, d, g', G1, S1, h, p.mono e1⟩
    | false => simp only [Bool.false_eq_true, if_false] at h ⊢; cases h; exact p H1 ι1 _ e1 G1 (by simp [Rel]))
theorem de_or (ha : DE X a fa) (hb : DE X (.BoolOp .Or (b :: rest) pos) fb) : DE X (.BoolOp .Or (a :: b :: rest) pos) (fOrV fa fb) := .of (
  PE.imp (pe_or ha.un hb.un) fun σ H Q h => by
    obtain ⟨ι, σd, g, d, g', G0, S0, h, p⟩ := h
    obtain ⟨⟨k1, g1⟩, h1, h⟩ := bind_some h
    have h1 := asB_some h1
    refine tD.bind G0 S0 h1 fun H1 ι1 v e1 G1 S1 r1 => ⟨k1, by simpa [Rel] using r1, ?_⟩
    cases k1 with
    | false => simp only [Bool.false_eq_true, if_false] at h ⊢; exact ⟨ι1, σd, g1, d, g', G1, S1, h, p.mono e1⟩
    | true => simp only [if_true] at h ⊢; cases h; exact p H1 ι1 _ e1 G1 (by simp [Rel]))
theorem de_not (ha : DE X a fa) : DE X (.UnaryOp .Not a pos) (fNotV fa) := .of (
  PE.imp (pe_not ha.un) fun σ H Q h => by
    obtain ⟨ι, σd, g, d, g', G0, S0, h, p⟩ := h
    obtain ⟨⟨k1, g1⟩, h1, h⟩ := bind_some h
    have h1 := asB_some h1
    cases h
    exact tD.bind G0 S0 h1 fun H1 ι1 v e1 G1 S1 r1 => ⟨k1, by simpa [Rel] using r1, p H1 ι1 _ e1 G1 (by simp [Rel])⟩)
def fNil : FA := fun _ g => some ([], g)
def fCons (fa : FE) (fr : FA) : FA := fun σ g => (fa σ g).bind fun r => (fr σ r.2).bind fun q => some (r.1 :: q.1, q.2)
theorem da_nil : DA X [] fNil := .of (PA.imp pa_nil fun σ H Q h => by
  obtain ⟨ι, σd, g, d, g', G0, S0, h, p⟩ := h
  cases h; exact p H ι _ Ext.refl G0 (by simp [RelL]))
theorem da_cons (ha : DE X e fa) (hr : DA X es fr) (hs : starEach (e :: es) X.env = (false, eval e X.env) :: starEach es X.env := by rfl) : DA X (e :: es) (fCons fa fr) := .of (
  PA.imp (pa_cons ha.un hr.un hs) fun σ H Q h => by
    obtain ⟨ι, σd, g, d, g', G0, S0, h, p⟩ := h
    obtain ⟨⟨d1, g1⟩, h1, h⟩ := bind_some h
    obtain ⟨⟨d2, g2⟩, h2, h⟩ := bind_some h
    cases h
    refine tD.bind G0 S0 h1 fun H1 ι1 v e1 G1 S1 r1 => ?_
    refine tDA.bind G1 S1 h2 fun H2 ι2 u e2 G2 S2 r2 => ?_
    refine p H2 ι2 _ (e1.trans e2) G2 ?_
    simp only [RelL]
    exact ⟨_, _, rfl, Rel.ext e2 _ r1, r2⟩)
def szOk (n : Nat) : Bool := decide (n ≤ 16777216)
theorem szOk.le {n : Nat} (h : szOk n = true) : n ≤ sizeLine := by rw [sizeLine_eq]; exact of_decide_eq_true h
def mkTup (ds : List D) (g : G) : Option (D × G) := if szOk ds.length = true then some (.tup ds, g) else none
def mkLst (ds : List D) (g : G) : Option (D × G) := if szOk ds.length = true then some (.lst ds, g) else none
def mkRef (ds : List D) (g : G) : Option (D × G) := if szOk ds.length = true then some (.ref g.length, g ++ [ds]) else none
theorem laid_tup {K H ι g ds vs d g' Q} (G0 : RelG K H ι g) (r : RelL K H ι ds vs) (h : mkTup ds g = some (d, g')) (p : Post K H ι d g' Q) : vs.length ≤ sizeLine ∧ ∀ q, H q = none → Q (.ref q) (upd H q (.tup vs)) := by
  unfold mkTup at h
  split at h
  · rename_i z
    cases h
    refine ⟨by rw [← r.length]; exact szOk.le z, fun q hq => p _ _ _ (Ext.lay hq) (G0.lay hq) ?_⟩
    simp only [Rel]
    exact ⟨q, vs, rfl, .inl ⟨.inl upd_same, G0.fresh hq⟩, RelL.ext (Ext.lay hq) _ r⟩
  · cases h
theorem laid_lst {K H ι g ds vs d g' Q} (G0 : RelG K H ι g) (r : RelL K H ι ds vs) (h : mkLst ds g = some (d, g')) (p : Post K H ι d g' Q) : vs.length ≤ sizeLine ∧ ∀ q, H q = none → Q (.ref q) (upd H q (.lst vs)) := by
  unfold mkLst at h
  split at h
  · rename_i z
    cases h
    refine ⟨by rw [← r.length]; exact szOk.le z, fun q hq => p _ _ _ (Ext.lay hq) (G0.lay hq) ?_⟩
    simp only [Rel]
    exact ⟨q, vs, rfl, .inl ⟨.inl upd_same, G0.fresh hq, G0.freshH hq⟩, RelL.ext (Ext.lay hq) _ r⟩
  · cases h
theorem laid_ref {K H ι g ds vs d g' Q} (G0 : RelG K H ι g) (r : RelL K H ι ds vs) (h : mkRef ds g = some (d, g')) (p : Post K H ι d g' Q) : vs.length ≤ sizeLine ∧ ∀ q, H q = none → Q (.ref q) (upd H q (.lst vs)) := by
  unfold mkRef at h
  split at h
  · rename_i z
    cases h
    refine ⟨by rw [← r.length]; exact szOk.le z, fun q hq => p _ _ _ (Ext.push hq) (G0.push hq r) ?_⟩
    simp only [Rel]
    refine ⟨q, rfl, ?_⟩
    show (ι.ix ++ [q])[g.length]? = some q
    rw [List.getElem?_append_right (by rw [G0.len]; exact Nat.le_refl _), G0.len]; simp
  · cases h
def fMk (m : List D → G → Option (D × G)) (fr : FA) : FE := fun σ g => (fr σ g).bind fun r => m r.1 r.2
theorem de_tup {x1} (h : DA X es fr) : DE X (.Tuple es x1 pos) (fMk mkTup fr) := .of (PE.imp (pe_tup h.un) fun σ H Q h => by
  obtain ⟨ι, σd, g, d, g', G0, S0, h, p⟩ := h
  obtain ⟨⟨d1, g1⟩, h1, h⟩ := bind_some h
  exact tDA.bind G0 S0 h1 fun H1 ι1 v e1 G1 S1 r1 => laid_tup G1 r1 h (p.mono e1))
theorem de_lst (h : DA X es fr) : DE X (.List es pos) (fMk mkLst fr) := .of (PE.imp (pe_lst h.un) fun σ H Q h => by
  obtain ⟨ι, σd, g, d, g', G0, S0, h, p⟩ := h
  obtain ⟨⟨d1, g1⟩, h1, h⟩ := bind_some h
  exact tDA.bind G0 S0 h1 fun H1 ι1 v e1 G1 S1 r1 => laid_lst G1 r1 h (p.mono e1))
theorem de_ref (h : DA X es fr) : DE X (.List es pos) (fMk mkRef fr) := .of (PE.imp (pe_lst h.un) fun σ H Q h => by
  obtain ⟨ι, σd, g, d, g', G0, S0, h, p⟩ := h
  obtain ⟨⟨d1, g1⟩, h1, h⟩ := bind_some h
  exact tDA.bind G0 S0 h1 fun H1 ι1 v e1 G1 S1 r1 => laid_ref G1 r1 h (p.mono e1))
end
end L3
namespace L3
open PySem PySem.Spec PyProof.Rows L2
inductive F where
  | nx | rt (d : D) | bk | ct
abbrev FS := Sg → G → Option (F × Sg × G)
def PostS (K : PySem.W.Frag) (H : Hp) (ι : Ix) (r : F) (σd' : Sg) (g' : G) (Dn : Ends) : Prop :=
  ∀ H' ι', Ext H ι H' ι' → RelG K H' ι' g' → match r with
    | .nx => ∀ σ', RelS K H' ι' σd' σ' → Dn.nx σ' H'
    | .bk => ∀ σ', RelS K H' ι' σd' σ' → Dn.bk σ' H'
    | .ct => ∀ σ', RelS K H' ι' σd' σ' → Dn.ct σ' H'
    | .rt d => ∀ v, Rel K H' ι' d v → Dn.rt v H'
inductive tDS (K : PySem.W.Frag) (f : FS)  (Dn : Ends) (σ : L2.St) (H : Hp) : Prop
  | mk (ι : Ix) (σd : Sg) (g : G) (r : F) (σd' : Sg) (g' : G) (h0 : RelG K H ι g) (h1 : RelS K H ι σd σ) (h2 : f σd g = some (r, σd', g')) (h3 : PostS K H ι r σd' g' Dn) : tDS K f Dn σ H
structure DS (X : Cx) (st : Stmt) (f : FS) : Prop where of ::
  un : PS X st (tDS X.K f)
structure DSs (X : Cx) (sts : List Stmt) (f : FS) : Prop where of ::
  un : PSs X sts (tDS X.K f)
theorem PS.imp {X : Cx} {e : Stmt} {t t' : TS} (h : PS X e t) (i : ∀ Dn σ H, t' Dn σ H → t Dn σ H) : PS X e t' := fun pins s σ H Q I q => h pins s σ H Q I (i Q σ H q)
theorem PSs.imp {X : Cx} {e : List Stmt} {t t' : TS} (h : PSs X e t) (i : ∀ Dn σ H, t' Dn σ H → t Dn σ H) : PSs X e t' := fun pins s σ H Q I q => h pins s σ H Q I (i Q σ H q)
theorem PostS.mono {K H ι H1 ι1 r σd' g' Dn} (e : Ext H ι H1 ι1) (p : PostS K H ι r σd' g' Dn) : PostS K H1 ι1 r σd' g' Dn := fun H' ι' e' G' => p H' ι' (e.trans e') G'
def fSkip : FS := fun σ g => some (.nx, σ, g)
def fSeq (f1 f2 : FS) : FS := fun σ g => (f1 σ g).bind fun r => match r.1 with | .nx => f2 r.2.1 r.2.2 | _ => some r
def fRet (f : FE) : FS := fun σ g => (f σ g).bind fun r => some (.rt r.1, σ, r.2)
def fDrop (f : FE) : FS := fun σ g => (f σ g).bind fun r => some (.nx, σ, r.2)
def fIf (c : FT) (f1 f2 : FS) : FS := fun σ g => (c σ g).bind fun r => if r.1 = true then f1 σ r.2 else f2 σ r.2
section
variable {X : Cx} {st : Stmt} {rest : List Stmt} {f1 f2 : FS} {e : Expr} {fe : FE} {pos : Pos} {gc : FT}
theorem dss_nil : DSs X [] fSkip := .of (PSs.imp pss_nil fun Dn σ H h => by
  obtain ⟨ι, σd, g, r, σd', g', G0, S0, h, p⟩ := h
  cases h
  exact p H ι Ext.refl G0 σ S0)
theorem dss_cons (h1 : DS X st f1) (h2 : DSs X rest f2) : DSs X (st :: rest) (fSeq f1 f2) := .of (PSs.imp (pss_cons h1.un h2.un) fun Dn σ H h => by
  obtain ⟨ι, σd, g, r, σd', g', G0, S0, h, p⟩ := h
  obtain ⟨⟨r1, σ1, g1⟩, h1, h⟩ := bind_some h
  refine ⟨ι, σd, g, r1, σ1, g1, G0, S0, h1, fun H1 ι1 e1 G1 => ?_⟩
  cases r1 with
  | nx => exact fun σ' S1 => ⟨ι1, σ1, g1, r, σd', g', G1, S1, h, p.mono e1⟩
  | bk => cases h; exact p H1 ι1 e1 G1
  | ct => cases h; exact p H1 ι1 e1 G1
  | rt d => cases h; exact p H1 ι1 e1 G1)
theorem dss_one (h1 : DS X st f1) : DSs X [st] f1 := .of (pss_one h1.un)
theorem ds_ret (he : DE X e fe) : DS X (.Return (some e) pos) (fRet fe) := .of (PS.imp (ps_ret he.un) fun Dn σ H h => by
  obtain ⟨ι, σd, g, r, σd', g', G0, S0, h, p⟩ := h
  obtain ⟨⟨d1, g1⟩, h1, h⟩ := bind_some h
  cases h
  exact tD.bind G0 S0 h1 fun H1 ι1 v e1 G1 S1 r1 => p H1 ι1 e1 G1 v r1)
theorem ds_expr (he : DE X e fe) (hs : swapsWith e none pos.line X.env = pure false := by rfl) : DS X (.Expr e pos) (fDrop fe) := .of (PS.imp (ps_expr he.un hs) fun Dn σ H h => by
  obtain ⟨ι, σd, g, r, σd', g', G0, S0, h, p⟩ := h
  obtain ⟨⟨d1, g1⟩, h1, h⟩ := bind_some h
  cases h
  exact tD.bind G0 S0 h1 fun H1 ι1 v e1 G1 S1 r1 => p H1 ι1 e1 G1 σ S1)
theorem ds_if {c : Expr} {a b : List Stmt} (hc : DT X c gc) (ha : DSs X a f1) (hb : DSs X b f2) : DS X (.If c a b pos) (fIf gc f1 f2) := .of (PS.imp (ps_if hc.un ha.un hb.un) fun Dn σ H h => by
  obtain ⟨ι, σd, g, r, σd', g', G0, S0, h, p⟩ := h
  obtain ⟨⟨k, g1⟩, h1, h⟩ := bind_some h
  refine tDT.bind G0 S0 h1 fun H1 ι1 e1 G1 S1 => ?_
  cases k with
  | true => simp only [if_true] at h ⊢; exact ⟨ι1, σd, g1, r, σd', g', G1, S1, h, p.mono e1⟩
  | false => simp only [Bool.false_eq_true, if_false] at h ⊢; exact ⟨ι1, σd, g1, r, σd', g', G1, S1, h, p.mono e1⟩)
abbrev FG := D → Sg → G → Option (Sg × G)
abbrev FGs := List D → Sg → G → Option (Sg × G)
inductive tDG (K : PySem.W.Frag) (f : FG)  (v : V) (σ : L2.St) (H : Hp) (Q : (L2.St → Hp → Prop)) : Prop
  | mk (ι : Ix) (σd : Sg) (g : G) (d : D) (σd' : Sg) (g' : G) (h0 : RelG K H ι g) (h1 : RelS K H ι σd σ) (h2 : Rel K H ι d v) (h3 : f d σd g = some (σd', g')) (h4 : ∀ H' ι' σ', Ext H ι H' ι' → RelG K H' ι' g' → RelS K H' ι' σd' σ' → Q σ' H') : tDG K f v σ H Q
inductive tDGs (K : PySem.W.Frag) (f : FGs)  (v : List V) (σ : L2.St) (H : Hp) (Q : (L2.St → Hp → Prop)) : Prop
  | mk (ι : Ix) (σd : Sg) (g : G) (d : List D) (σd' : Sg) (g' : G) (h0 : RelG K H ι g) (h1 : RelS K H ι σd σ) (h2 : RelL K H ι d v) (h3 : f d σd g = some (σd', g')) (h4 : ∀ H' ι' σ', Ext H ι H' ι' → RelG K H' ι' g' → RelS K H' ι' σd' σ' → Q σ' H') : tDGs K f v σ H Q
structure DG (X : Cx) (tg : Expr) (f : FG) : Prop where of ::
  un : PG X tg (tDG X.K f)
structure DGs (X : Cx) (tg : List Expr) (f : FGs) : Prop where of ::
  un : PGs X tg (tDGs X.K f)
theorem PG.imp {X : Cx} {e : Expr} {t t' : TG} (h : PG X e t) (i : ∀ v σ H Q, t' v σ H Q → t v σ H Q) : PG X e t' := fun pins s σ H v u Q I r q => h pins s σ H v u Q I r (i v σ H Q q)
theorem PGs.imp {X : Cx} {e : List Expr} {t t' : TGs} (h : PGs X e t) (i : ∀ v σ H Q, t' v σ H Q → t v σ H Q) : PGs X e t' := fun pins s σ H v u Q I r q => h pins s σ H v u Q I r (i v σ H Q q)
def gN (i : Nat) : FG := fun d σ g => some (σ.set i (some d), g)
theorem RelS.set {K H ι σd σ d v} (S : RelS K H ι σd σ) (r : Rel K H ι d v) (i : Nat) : RelS K H ι (σd.set i (some d)) (σ.set i (some v)) := by
  refine ⟨by simp [S.1], fun j d' q => ?_⟩
  by_cases e : i = j
  · subst e
    have hi : i < σd.length := by
      by_cases hi : i < σd.length
      · exact hi
      · rw [List.getElem?_eq_none_iff.mpr (by simpa using hi)] at q; cases q
    rw [List.getElem?_set_self hi] at q
    cases q
    exact ⟨v, by rw [List.getElem?_set_self (by rw [← S.1]; exact hi)], r⟩
  · rw [List.getElem?_set_ne e] at q ⊢
    exact S.2 j d' q
theorem dg_name {i : Nat} {x : Str} (hN : X.N.Nodup) (hi : X.N[i]? = some x) (hx : Loc X.env.scope x) (hf : X.fn x = true ∨ X.env.scope.names.lookup x = some .local := by first | exact .inl rfl | exact .inr rfl | assumption) : DG X (.Name x pos) (gN i) := .of (
  PG.imp (pg_name hN hi hx hf) fun v σ H Q h => by
    obtain ⟨ι, σd, g, d, σd', g', G0, S0, r, h, p⟩ := h
    cases h
    exact p H ι _ Ext.refl G0 (S0.set r i))
def gNils : FGs := fun ds σ g => match ds with | [] => some (σ, g) | _ => none
def gConss (t : FG) (u : FGs) : FGs := fun ds σ g => match ds with | d :: r => (t d σ g).bind fun q => u r q.1 q.2 | [] => none
theorem dgs_nil : DGs X [] gNils := .of (PGs.imp pgs_nil fun v σ H Q h => by
  obtain ⟨ι, σd, g, d, σd', g', G0, S0, r, h, p⟩ := h
  cases d with
  | nil => cases h; simp only [RelL] at r; exact ⟨r, p H ι _ Ext.refl G0 S0⟩
  | cons _ _ => cases h)
theorem dgs_cons {e : Expr} {es : List Expr} {t : FG} {u : FGs} (h1 : DG X e t) (h2 : DGs X es u)
    (hs : (assignEach (e :: es) X.env).map (·.2) = assign e X.env :: (assignEach es X.env).map (·.2) := by rfl) : DGs X (e :: es) (gConss t u) := .of (PGs.imp (pgs_cons h1.un h2.un hs) fun v σ H Q h => by
  obtain ⟨ι, σd, g, d, σd', g', G0, S0, r, h, p⟩ := h
  cases d with
  | nil => cases h
  | cons d ds =>
    simp only [RelL] at r
    obtain ⟨v0, vr, rfl, r0, rr⟩ := r
    obtain ⟨⟨σ1, g1⟩, h1, h⟩ := bind_some h
    exact ⟨v0, vr, rfl, ι, σd, g, d, σ1, g1, G0, S0, r0, h1, fun H1 ι1 σ' e1 G1 S1 => ⟨ι1, σ1, g1, ds, σd', g', G1, S1, RelL.ext e1 _ rr, h, fun H2 ι2 σ2 e2 G2 S2 => p H2 ι2 σ2 (e1.trans e2) G2 S2⟩⟩)
def gT (n : Nat) (t : FGs) : FG := fun d σ g => match d with | .tup xs => if xs.length = n then t xs σ g else none | _ => none
theorem dg_tup {es : List Expr} {k : Nat} {t : FGs} {n : Nat} (hc : X.calm = true) (h : DGs X es t)
    (hn : (assignEach es X.env).length = n := by rfl) (hst : (assignEach es X.env).findIdx? (·.1) = none := by rfl) : DG X (.Tuple es k pos) (gT n t) := .of (PG.imp (pg_tup hc h.un hn hst) fun v σ H Q h => by
  obtain ⟨ι, σd, g, d, σd', g', G0, S0, r, h, p⟩ := h
  cases d with
  | tup xs =>
    simp only [Rel] at r
    obtain ⟨a, vs, rfl, hq, hr⟩ := r
    simp only [gT] at h
    split at h
    · rename_i z
      exact ⟨a, vs, rfl, hq.sq, by rw [← hr.length]; exact z, ι, σd, g, xs, σd', g', G0, S0, hr, h, p⟩
    · cases h
  | _ => cases h)
def fAsg (f : FE) (t : FG) : FS := fun σ g => (f σ g).bind fun r => (t r.1 σ r.2).bind fun q => some (.nx, q.1, q.2)
theorem tAsg_of {K t} {fe : FE} {Dn σ H} (h : tDS K (fAsg fe t) Dn σ H) : tAsg (tD K fe) (tDG K t) Dn σ H := by
  obtain ⟨ι, σd, g, r, σd', g', G0, S0, h, p⟩ := h
  obtain ⟨⟨d1, g1⟩, h1, h⟩ := bind_some h
  obtain ⟨⟨σ1, g2⟩, h2, h⟩ := bind_some h
  cases h
  exact tD.bind G0 S0 h1 fun H1 ι1 v e1 G1 S1 r1 => ⟨ι1, σd, g1, d1, σ1, g2, G1, S1, r1, h2, fun H2 ι2 σ' e2 G2 S2 => p H2 ι2 (e1.trans e2) G2 σ' S2⟩
theorem ds_asg {tg : Expr} {t : FG} (he : DE X e fe) (hg : DG X tg t) (hs : swapsWithSole [tg] e pos.line X.env = pure false := by rfl) (hw : swappedStores [tg] e X.env = pure none := by rfl)
    (h1 : (assignEach [tg] X.env).map (·.2) = [assign tg X.env] := by rfl) : DS X (.Assign [tg] e pos) (fAsg fe t) := .of (PS.imp (ps_asg he.un hg.un hs hw h1) fun Dn σ H h => tAsg_of h)
theorem ds_set {i : Nat} {x : Str} {pos' : Pos} (hN : X.N.Nodup) (hi : X.N[i]? = some x) (hx : Loc X.env.scope x) (he : DE X e fe) (hs : swapsWith e (some (.Name x pos')) pos.line X.env = pure false := by rfl) (hf : X.fn x = true ∨ X.env.scope.names.lookup x = some .local := by first | exact .inl rfl | exact .inr rfl | assumption) :
    DS X (.Assign [.Name x pos'] e pos) (fAsg fe (gN i)) := .of (PS.imp (ps_set hN hi hx he.un hs hf) fun Dn σ H h => by
  obtain ⟨ι, σd, g, r, σd', g', G0, S0, h, p⟩ := h
  obtain ⟨⟨d1, g1⟩, h1, h⟩ := bind_some h
  cases h
  exact tD.bind G0 S0 h1 fun H1 ι1 v e1 G1 S1 r1 => p H1 ι1 e1 G1 _ (S1.set r1 i))
def putD (o i v : D) (g : G) : Option G := match o, i with
  | .ref n, .int k => match g[n]? with
    | some xs => match ixN xs.length k with
      | some j => some (g.set n (xs.set j v))
      | none => none
    | none => none
  | _, _ => none
def gIx (fo fi : FE) : FG := fun v σ g => (fo σ g).bind fun r => (fi σ r.2).bind fun q => (putD r.1 q.1 v q.2).map fun g' => (σ, g')
theorem dg_sub {o i : Expr} {fo fi : FE} (ho : DE X o fo) (hi : DE X i fi)
    (ha : ∀ v, assign (.Subscript o i pos) X.env v = (do
      let ov ← holding [v] (eval o X.env)
      let iv ← holding [v, ov] (eval i X.env)
      standAt pos
      holding [v, ov, iv] (setItem ov iv v)
      release [v, ov, iv] []) := by intro _; rfl) : DG X (.Subscript o i pos) (gIx fo fi) := .of (PG.imp (pg_sub ho.un hi.un set_list ha) fun v σ H Q h => by
  obtain ⟨ι, σd, g, d, σd', g', G0, S0, r, h, p⟩ := h
  obtain ⟨⟨d1, g1⟩, h1, h⟩ := bind_some h
  obtain ⟨⟨d2, g2⟩, h2, h⟩ := bind_some h
  refine tD.bind G0 S0 h1 fun H1 ι1 v1 e1 G1 S1 r1 => ?_
  refine tD.bind G1 S1 h2 fun H2 ι2 v2 e2 G2 S2 r2 => ?_
  have r1 := Rel.ext e2 _ r1
  have r0 := Rel.ext (e1.trans e2) _ r
  dsimp only at h
  cases d1 with
  | ref n =>
    cases d2 with
    | int k =>
      simp only [Rel] at r1 r2
      obtain ⟨a, rfl, ha⟩ := r1
      subst r2
      simp only [putD] at h
      cases hx : g2[n]? with
      | none => rw [hx] at h; cases h
      | some xs =>
        rw [hx] at h
        dsimp only at h
        cases hj : ixN xs.length k with
        | none => rw [hj] at h; cases h
        | some j =>
          rw [hj] at h
          cases h
          obtain ⟨vs, hv, hr⟩ := G2.at hx ha
          refine ⟨a, vs, k, j, rfl, rfl, hv, by rw [← hr.length]; exact hj, ?_⟩
          exact p _ ι2 σ ((e1.trans e2).trans (Ext.put ha hv)) (G2.put ha hv (RelL.set r0 j hr)) (S2.ext (Ext.put ha hv))
    | _ => cases h
  | _ => cases h)
end
abbrev FI := Sg → G → Option (List D × G)
structure Exh (H : Hp) (ι : Ix) (H' : Hp) (ι' : Ix) : Prop where
  same : ∀ a o, H a = some o → a ∉ ι.ix → H' a = some o
  there : ∀ a, H a ≠ none → H' a ≠ none
  more : ∃ m, ι'.ix = ι.ix ++ m ∧ ∀ a ∈ m, H a = none
  hid : ∃ hs, ι'.hd = hs ++ ι.hd ∧ ∀ b ∈ hs, H b = none
theorem Ext.exh {H ι H1 ι1} (e : Ext H ι H1 ι1) : Exh H ι H1 ι1 := ⟨e.same, e.there, e.more, ⟨[], e.hid, fun _ z => by simp at z⟩⟩
theorem Exh.old {H ι H1 ι1} (a : Exh H ι H1 ι1) {c : Addr} {o : HO} (h : H c = some o) (n : c ∉ ι.ix) : c ∉ ι1.ix := fun z => by
  obtain ⟨m1, e1, f1⟩ := a.more
  rw [e1] at z
  rcases List.mem_append.mp z with z | z
  · exact n z
  · rw [f1 c z] at h; cases h
theorem Exh.oldH {H ι H1 ι1} (a : Exh H ι H1 ι1) {c : Addr} {o : HO} (h : H c = some o) (n : c ∉ ι.hd) : c ∉ ι1.hd := fun z => by
  obtain ⟨m1, e1, f1⟩ := a.hid
  rw [e1] at z
  rcases List.mem_append.mp z with z | z
  · rw [f1 c z] at h; cases h
  · exact n z
theorem Exh.at {H ι H1 ι1} (a : Exh H ι H1 ι1) {i : Nat} {c : Addr} (h : ι.ix[i]? = some c) : ι1.ix[i]? = some c := by
  obtain ⟨m1, e1, _⟩ := a.more
  rw [e1, List.getElem?_append_left (List.getElem?_eq_some_iff.mp h).1]; exact h
theorem SqV.exh {K H ι H1 ι1 a xs} (e : Exh H ι H1 ι1) (h : SqV K H ι a xs) : SqV K H1 ι1 a xs := by
  rcases h with ⟨h | ⟨o, h⟩, n, k⟩ | h
  · exact .inl ⟨.inl (e.same _ _ h n), e.old h n, e.oldH h k⟩
  · exact .inl ⟨.inr ⟨o, e.same _ _ h n⟩, e.old h n, e.oldH h k⟩
  · exact .inr h
theorem SqU.exh {K H ι H1 ι1 a xs} (e : Exh H ι H1 ι1) (h : SqU K H ι a xs) : SqU K H1 ι1 a xs := by
  rcases h with ⟨h | ⟨o, h⟩, n⟩ | h
  · exact .inl ⟨.inl (e.same _ _ h n), e.old h n⟩
  · exact .inl ⟨.inr ⟨o, e.same _ _ h n⟩, e.old h n⟩
  · exact .inr h
mutual
theorem Rel.exh {K H ι H1 ι1} (e : Exh H ι H1 ι1) : ∀ (d : D) {v : V}, Rel K H ι d v → Rel K H1 ι1 d v
  | .non, v, h => by simpa [Rel] using h
  | .bl _, v, h => by simpa [Rel] using h
  | .int _, v, h => by simpa [Rel] using h
  | .str _, v, h => by simpa [Rel] using h
  | .tup xs, v, h => by
    simp only [Rel] at h ⊢
    obtain ⟨a, vs, e1, hq, hr⟩ := h
    exact ⟨a, vs, e1, hq.exh e, RelL.exh e xs hr⟩
  | .lst xs, v, h => by
    simp only [Rel] at h ⊢
    obtain ⟨a, vs, e1, hq, hr⟩ := h
    exact ⟨a, vs, e1, hq.exh e, RelL.exh e xs hr⟩
  | .edc, v, h => by
    simp only [Rel] at h ⊢
    obtain ⟨a, e1, hq, hr⟩ := h
    exact ⟨a, e1, e.same _ _ hq hr, e.old hq hr⟩
  | .ref n, v, h => by
    simp only [Rel] at h ⊢
    obtain ⟨a, e1, hq⟩ := h
    exact ⟨a, e1, e.at hq⟩
theorem RelL.exh {K H ι H1 ι1} (e : Exh H ι H1 ι1) : ∀ (ds : List D) {vs : List V}, RelL K H ι ds vs → RelL K H1 ι1 ds vs
  | [], vs, h => by simpa [RelL] using h
  | d :: ds, vs, h => by
    simp only [RelL] at h ⊢
    obtain ⟨v, vr, e1, hq, hr⟩ := h
    exact ⟨v, vr, e1, Rel.exh e d hq, RelL.exh e ds hr⟩
end
def ItOk (K : PySem.W.Frag) (J : It) (H : Hp) (ι : Ix) (ds : List D) : Prop :=
  ∀ (i : Nat) H1 ι1 g1, Exh H ι H1 ι1 → RelG K H1 ι1 g1 → (ds.length ≤ i → J.stop i H1) ∧ ∀ d, ds[i]? = some d → J.go i H1 ∧ ∀ x H2, J.yld i H1 x H2 → Ext H1 ι1 H2 ι1 ∧ RelG K H2 ι1 g1 ∧ Rel K H2 ι1 d x
inductive tDI (K : PySem.W.Frag) (f : FI)  (σ : L2.St) (H : Hp) (R : (It → Hp → Prop)) : Prop
  | mk (ι : Ix) (σd : Sg) (g : G) (ds : List D) (g' : G) (h0 : RelG K H ι g) (h1 : RelS K H ι σd σ) (h2 : f σd g = some (ds, g')) (h3 : ∀ H' ι' J, Ext H ι H' ι' → RelG K H' ι' g' → ItOk K J H' ι' ds → R J H') : tDI K f σ H R
structure DI (X : Cx) (tg iter : Expr) (f : FI) : Prop where of ::
  un : PI X tg iter (tDI X.K f)
theorem PI.imp {X : Cx} {tg e : Expr} {t t' : TI} (h : PI X tg e t) (i : ∀ σ H Q, t' σ H Q → t σ H Q) : PI X tg e t' := fun pins s σ H Q I q => h pins s σ H Q I (i σ H Q q)
theorem ItOk.lst {K H ι a vs ds} (hq : SqV K H ι a vs) (hr : RelL K H ι ds vs) : ItOk K (Itl K a) H ι ds := fun i H1 ι1 g1 e1 G1 =>
  ⟨fun hl => ⟨vs, (hq.exh e1).sq, by rw [← hr.length]; exact hl⟩, fun d hd => by
    obtain ⟨v, hv, rv⟩ := (RelL.exh e1 _ hr).get hd
    refine ⟨⟨vs, v, (hq.exh e1).sq, hv⟩, fun x H2 y => ?_⟩
    obtain ⟨rfl, y⟩ := y
    have := y vs (hq.exh e1).sq
    rw [hv] at this; cases this
    exact ⟨Ext.refl, G1, rv⟩⟩
theorem ItOk.tup' {K H ι a vs ds} (hq : SqU K H ι a vs) (hr : RelL K H ι ds vs) : ItOk K (Itt K a) H ι ds := fun i H1 ι1 g1 e1 G1 =>
  ⟨fun hl => ⟨vs, (hq.exh e1).sq, by rw [← hr.length]; exact hl⟩, fun d hd => by
    obtain ⟨v, hv, rv⟩ := (RelL.exh e1 _ hr).get hd
    refine ⟨⟨vs, v, (hq.exh e1).sq, hv⟩, fun x H2 y => ?_⟩
    obtain ⟨rfl, y⟩ := y
    have := y vs (hq.exh e1).sq
    rw [hv] at this; cases this
    exact ⟨Ext.refl, G1, rv⟩⟩
theorem ItOk.rng {K H ι} {lo : Int} {n : Nat} : ItOk K (Itr lo n) H ι ((List.range n).map fun (k : Nat) => D.int (lo + k)) := fun i H1 ι1 g1 e1 G1 =>
  ⟨fun hl => (by show n ≤ i; simpa using hl), fun d hd => by
    have hi : i < n := by
      have := (List.getElem?_eq_some_iff.mp hd).1
      simpa using this
    refine ⟨hi, fun x H2 y => ?_⟩
    obtain ⟨rfl, rfl⟩ := y
    have e : d = D.int (lo + i) := by simpa [List.getElem?_map, List.getElem?_range hi] using hd.symm
    subst e
    exact ⟨Ext.refl, G1, by simp [Rel]⟩⟩
section
variable {X : Cx} {tg l a b : Expr} {fe : FE} {fr : FA} {pos p : Pos}
def iSeqT (f : FE) : FI := fun σ g => (f σ g).bind fun r => match r.1 with | .tup xs => some (xs, r.2) | _ => none
def iSeqL (f : FE) : FI := fun σ g => (f σ g).bind fun r => match r.1 with | .lst xs => some (xs, r.2) | _ => none
theorem di_tup (hl : DE X l fe) : DI X tg l (iSeqT fe) := .of (PI.imp (pi_tup hl.un) fun σ H Q h => by
  obtain ⟨ι, σd, g, ds, g', G0, S0, h, p⟩ := h
  obtain ⟨⟨d1, g1⟩, h1, h⟩ := bind_some h
  cases d1 with
  | tup xs =>
    cases h
    refine tD.bind G0 S0 h1 fun H1 ι1 v e1 G1 S1 r1 => ?_
    simp only [Rel] at r1
    obtain ⟨a, vs, rfl, hq, hr⟩ := r1
    exact ⟨a, rfl, ⟨vs, hq.sq⟩, p H1 ι1 _ e1 G1 (.tup' hq hr)⟩
  | _ => cases h)
theorem di_lst (hl : DE X l fe) : DI X tg l (iSeqL fe) := .of (PI.imp (pi_list hl.un) fun σ H Q h => by
  obtain ⟨ι, σd, g, ds, g', G0, S0, h, p⟩ := h
  obtain ⟨⟨d1, g1⟩, h1, h⟩ := bind_some h
  cases d1 with
  | lst xs =>
    cases h
    refine tD.bind G0 S0 h1 fun H1 ι1 v e1 G1 S1 r1 => ?_
    simp only [Rel] at r1
    obtain ⟨a, vs, rfl, hq, hr⟩ := r1
    exact ⟨a, rfl, ⟨vs, hq.sq⟩, p H1 ι1 _ e1 G1 (.lst hq hr)⟩
  | _ => cases h)
def okR (i : Int) : Bool := Nat.ble i.natAbs 4611686018427387903
theorem okR.and {i : Int} (h : okR i = true) : -(2 ^ 62) ≤ i ∧ i < 2 ^ 62 := by
  have := Nat.le_of_ble_eq_true h
  omega
theorem okR.of {i : Int} (h1 : -1000000 ≤ i) (h2 : i ≤ 1000000) : okR i = true := Nat.ble_eq_true_of_le (by omega)
def iR1 (fr : FA) : FI := fun σ g => (fr σ g).bind fun r => match r.1 with | [.int j] => if okR j = true then some ((List.range j.toNat).map fun (k : Nat) => D.int (0 + k), r.2) else none | _ => none
theorem di_r1 (hg : Gl X "range") (hm : X.mg "range" = none) (ha : DA X [a] fr) (hs : starEach [a] X.env = [(false, eval a X.env)] := by rfl) : DI X tg (.Call (.Name "range" p) [a] [] pos) (iR1 fr) := .of (
  PI.imp (pi_range1 hg hm ha.un hs) fun σ H Q h => by
    obtain ⟨ι, σd, g, ds, g', G0, S0, h, p⟩ := h
    obtain ⟨⟨d1, g1⟩, h1, h⟩ := bind_some h
    refine tDA.bind G0 S0 h1 fun H1 ι1 v e1 G1 S1 r1 => ?_
    dsimp only at h
    split at h
    · rename_i j
      split at h
      · rename_i z
        cases h
        simp only [RelL, Rel] at r1
        obtain ⟨_, _, rfl, rfl, rfl⟩ := r1
        exact ⟨j, rfl, (okR.and z).1, (okR.and z).2, p H1 ι1 _ e1 G1 .rng⟩
      · cases h
    · cases h)
def forL (t : FG) (b : FS) : List D → FS
  | [], σ, g => some (.nx, σ, g)
  | d :: ds, σ, g => (t d σ g).bind fun q => (b q.1 q.2).bind fun r => match r.1 with
    | .nx => forL t b ds r.2.1 r.2.2
    | .ct => forL t b ds r.2.1 r.2.2
    | .bk => some (.nx, r.2.1, r.2.2)
    | .rt d => some (.rt d, r.2.1, r.2.2)
def fFor (i : FI) (t : FG) (b : FS) : FS := fun σ g => (i σ g).bind fun r => forL t b r.1 σ r.2
inductive ForJ (X : Cx) (t : FG) (b : FS) (ds : List D) (H1 : Hp) (ι1 : Ix) (r : F) (σd' : Sg) (g' : G) (i : Nat) (σ2 : L2.St) (H2 : Hp) : Prop
  | mk (ι2 : Ix) (σd2 : Sg) (g2 : G) (e2 : Ext H1 ι1 H2 ι2) (G2 : RelG X.K H2 ι2 g2) (S2 : RelS X.K H2 ι2 σd2 σ2) (hf : forL t b (ds.drop i) σd2 g2 = some (r, σd', g')) : ForJ X t b ds H1 ι1 r σd' g' i σ2 H2
theorem ds_for {iter : Expr} {body : List Stmt} {fi : FI} {t : FG} {b : FS} (hp : PassesOwn (model X.prog X.w) X.A X.env X.xe) (hc : X.calm = true) (hi : DI X tg iter fi) (hg : DG X tg t) (hb : DSs X body b)
    (hs : ∀ x, foldedSetIterable iter X.env x = pure x := by intro _; rfl) : DS X (.For tg iter body [] pos) (fFor fi t b) := .of (PS.imp (ps_for hp hc hi.un hg.un hb.un hs) fun Dn σ H h => by
  obtain ⟨ι, σd, g, r, σd', g', G0, S0, h, p⟩ := h
  obtain ⟨⟨ds, g1⟩, h1, h⟩ := bind_some h
  refine ⟨ι, σd, g, ds, g1, G0, S0, h1, fun H1 ι1 J e1 G1 J1 => ?_⟩
  dsimp only at h
  refine ⟨fun i m σ2 H2 => m = ds.length - i ∧ i ≤ ds.length ∧ ForJ X t b ds H1 ι1 r σd' g' i σ2 H2,
    ⟨ds.length, by simp, Nat.zero_le _, ι1, σd, g1, Ext.refl, G1, S0.ext e1, by simpa using h⟩, ?_⟩
  rintro i m σ2 H2 ⟨rfl, hi, ι2, σd2, g2, e2, G2, S2, hf⟩
  obtain ⟨st, go⟩ := J1 i H2 ι2 g2 e2.exh G2
  by_cases hlt : i < ds.length
  · rw [List.drop_eq_getElem_cons hlt] at hf
    simp only [forL] at hf
    obtain ⟨⟨σ3, g3⟩, h3, hf⟩ := bind_some hf
    obtain ⟨⟨r4, σ4, g4⟩, h4, hf⟩ := bind_some hf
    obtain ⟨go, yl⟩ := go ds[i] (List.getElem?_eq_getElem hlt)
    refine .inr ⟨go, fun σ5 H5 => ForJ X t b ds H1 ι1 r σd' g' (i + 1) σ5 H5, ?_, ?_⟩
    · rintro σ5 H5 ⟨ι5, σd5, g5, e5, G5, S5, h5⟩
      exact ⟨ds.length - (i + 1), by omega, rfl, hlt, ι5, σd5, g5, e5, G5, S5, h5⟩
    · intro x H' y
      obtain ⟨e3, G3, r3⟩ := yl x H' y
      refine ⟨ι2, σd2, g2, ds[i], σ3, g3, G3, S2.ext e3, r3, h3, fun H6 ι6 σ6 e6 G6 S6 => ?_⟩
      refine ⟨ι6, σ3, g3, r4, σ4, g4, G6, S6, h4, fun H7 ι7 e7 G7 => ?_⟩
      have eall := e2.trans (e3.trans (e6.trans e7))
      cases r4 with
      | nx => exact fun σ' S7 => ⟨ι7, σ4, g4, eall, G7, S7, hf⟩
      | ct => exact fun σ' S7 => ⟨ι7, σ4, g4, eall, G7, S7, hf⟩
      | bk => cases hf; exact fun σ' S7 => p H7 ι7 (e1.trans eall) G7 σ' S7
      | rt d => cases hf; exact fun v r7 => p H7 ι7 (e1.trans eall) G7 v r7
  · have e : i = ds.length := by omega
    subst e
    simp only [List.drop_length, forL] at hf
    cases hf
    exact .inl ⟨st (Nat.le_refl _), p H2 ι2 (e1.trans e2) G2 σ2 S2⟩)
def whL (c : FT) (b : FS) : Nat → FS
  | 0, _, _ => none
  | n + 1, σ, g => (c σ g).bind fun k => if k.1 = true then (b σ k.2).bind fun r => match r.1 with
      | .nx => whL c b n r.2.1 r.2.2
      | .ct => whL c b n r.2.1 r.2.2
      | .bk => some (.nx, r.2.1, r.2.2)
      | .rt d => some (.rt d, r.2.1, r.2.2)
    else some (.nx, σ, k.2)
inductive WhJ (X : Cx) (gc : FT) (b : FS) (H : Hp) (ι : Ix) (r : F) (σd' : Sg) (g' : G) (m : Nat) (σ2 : L2.St) (H2 : Hp) : Prop
  | mk (ι2 : Ix) (σd2 : Sg) (g2 : G) (e2 : Ext H ι H2 ι2) (G2 : RelG X.K H2 ι2 g2) (S2 : RelS X.K H2 ι2 σd2 σ2) (hf : whL gc b m σd2 g2 = some (r, σd', g')) : WhJ X gc b H ι r σd' g' m σ2 H2
end
end L3
namespace L3
open PySem PySem.Spec PyProof.Rows L2
abbrev Fn := List D → G → Option (D × G)
def spD (K : PySem.W.Frag) (n : Nat) (fn : Fn) : Sp := fun vs H Q _ => vs.length = n ∧ ∃ ι g ds d g', RelG K H ι g ∧ RelL K H ι ds vs ∧ fn ds g = some (d, g') ∧ Post K H ι d g' Q
mutual
def noR (n : Nat) : D → Bool
  | .ref k => decide (k < n)
  | .tup xs => noRs n xs
  | .lst xs => noRs n xs
  | _ => true
def noRs (n : Nat) : List D → Bool
  | [] => true
  | d :: ds => noR n d && noRs n ds
end
def settle (n : Nat) (d : D) (g' : G) : Option (D × G) :=
  if g'.length = n then some (d, g') else
    if (g'.take n).all (noRs n) then
      match d with
      | .ref k => if k < n then some (d, g'.take n) else match g'[k]? with
        | some xs => if noRs n xs then some (.lst xs, g'.take n) else none
        | none => none
      | d => if noR n d then some (d, g'.take n) else none
    else none
def runFn (keep : Bool) (nN nP : Nat) (b : FS) : Fn := fun ds g =>
  if ds.length = nP then (b (ds.map some ++ List.replicate (nN - nP) none) g).bind fun r => match r.1 with
    | .rt d => if keep then some (d, r.2.2) else settle g.length d r.2.2
    | .nx => if keep then some (.non, r.2.2) else settle g.length .non r.2.2
    | _ => none
  else none
def Ix.cut (ι : Ix) (n : Nat) : Ix := ⟨ι.ix.take n, ι.hd⟩
mutual
theorem Rel.cut {K H ι} (n : Nat) : ∀ (d : D) {v : V}, noR n d = true → Rel K H ι d v → Rel K H (Ix.cut ι n) d v
  | .non, v, _, h => by simpa [Rel] using h
  | .bl _, v, _, h => by simpa [Rel] using h
  | .int _, v, _, h => by simpa [Rel] using h
  | .str _, v, _, h => by simpa [Rel] using h
  | .tup xs, v, z, h => by
    simp only [Rel] at h ⊢
    obtain ⟨a, vs, e1, hq, hr⟩ := h
    refine ⟨a, vs, e1, ?_, RelL.cut n xs z hr⟩
    rcases hq with ⟨hq, hn⟩ | hq
    · exact .inl ⟨hq, fun m => hn (List.mem_of_mem_take m)⟩
    · exact .inr hq
  | .lst xs, v, z, h => by
    simp only [Rel] at h ⊢
    obtain ⟨a, vs, e1, hq, hr⟩ := h
    refine ⟨a, vs, e1, ?_, RelL.cut n xs z hr⟩
    rcases hq with ⟨hq, hn, hh⟩ | hq
    · exact .inl ⟨hq, fun m => hn (List.mem_of_mem_take m), hh⟩
    · exact .inr hq
  | .edc, v, _, h => by
    simp only [Rel] at h ⊢
    obtain ⟨a, e1, hq, hr⟩ := h
    exact ⟨a, e1, hq, fun m => hr (List.mem_of_mem_take m)⟩
  | .ref k, v, z, h => by
    simp only [Rel] at h ⊢
    obtain ⟨a, e1, hq⟩ := h
    have z' : k < n := of_decide_eq_true z
    exact ⟨a, e1, by show (ι.ix.take n)[k]? = some a; rw [List.getElem?_take_of_lt z']; exact hq⟩
theorem RelL.cut {K H ι} (n : Nat) : ∀ (ds : List D) {vs : List V}, noRs n ds = true → RelL K H ι ds vs → RelL K H (Ix.cut ι n) ds vs
  | [], vs, _, h => by simpa [RelL] using h
  | d :: ds, vs, z, h => by
    simp only [RelL] at h ⊢
    simp only [noRs, Bool.and_eq_true] at z
    obtain ⟨v, vr, e1, hq, hr⟩ := h
    exact ⟨v, vr, e1, Rel.cut n d z.1 hq, RelL.cut n ds z.2 hr⟩
end
theorem RelG.cut {K H ι g} (n : Nat) (h : RelG K H ι g) (z : (g.take n).all (noRs n) = true) : RelG K H (Ix.cut ι n) (g.take n) := by
  refine ⟨h.nd.sublist (List.take_sublist _ _), by simp [Ix.cut, h.len], fun b hb => ⟨fun m => (h.hid b hb).1 (List.mem_of_mem_take m), (h.hid b hb).2⟩, fun i xs q => ?_⟩
  have hi : i < n := by
    have := (List.getElem?_eq_some_iff.mp q).1
    rw [List.length_take] at this; omega
  rw [List.getElem?_take_of_lt hi] at q
  obtain ⟨a, vs, h1, h2, h3⟩ := h.at_ i xs q
  refine ⟨a, vs, (by show (ι.ix.take n)[i]? = some a; rw [List.getElem?_take_of_lt hi]; exact h1), h2, RelL.cut n xs ?_ h3⟩
  exact List.all_eq_true.mp z xs (List.mem_of_getElem? (i := i) (by rw [List.getElem?_take_of_lt hi]; exact q))
theorem Ext.cut {H ι H' ι' n} (e : Ext H ι H' ι') (hn : ι.ix.length = n) : Ext H ι H' (Ix.cut ι' n) := by
  obtain ⟨m, e1, f⟩ := e.more
  refine ⟨e.same, e.there, ⟨[], ?_, fun _ z => by simp at z⟩, e.hid⟩
  subst hn
  show ι'.ix.take _ = _
  rw [e1]; simp
theorem settle_ok {K H ι g H' ι' g' d g'' dd v} (G0 : RelG K H ι g) (e : Ext H ι H' ι') (G1 : RelG K H' ι' g') (r : Rel K H' ι' d v) (h : settle g.length d g' = some (dd, g'')) :
    ∃ ι'', Ext H ι H' ι'' ∧ RelG K H' ι'' g'' ∧ Rel K H' ι'' dd v := by
  unfold settle at h
  split at h
  · cases h; exact ⟨ι', e, G1, r⟩
  split at h
  · rename_i z
    refine ⟨Ix.cut ι' g.length, e.cut G0.len, ?_⟩
    have Gc := G1.cut g.length z
    split at h
    · rename_i k
      split at h
      · rename_i hk
        cases h
        exact ⟨Gc, Rel.cut _ _ (decide_eq_true hk) r⟩
      · rename_i hk
        split at h
        · rename_i xs hx
          split at h
          · rename_i hz
            cases h
            refine ⟨Gc, ?_⟩
            simp only [Rel] at r ⊢
            obtain ⟨a, rfl, ha⟩ := r
            obtain ⟨vs, hv, hr⟩ := G1.at hx ha
            refine ⟨a, vs, rfl, .inl ⟨.inl hv, fun m => ?_, fun m => (G1.hid a m).1 (List.mem_of_getElem? ha)⟩, RelL.cut _ _ hz hr⟩
            obtain ⟨j, hj, ej⟩ := List.mem_iff_getElem.mp (show a ∈ ι'.ix.take g.length from m)
            have hjl : j < g.length := by rw [List.length_take] at hj; omega
            have hj' : j < ι'.ix.length := by rw [List.length_take] at hj; omega
            rw [List.getElem_take] at ej
            obtain ⟨hk', ek⟩ := List.getElem?_eq_some_iff.mp ha
            have : j = k := (List.getElem_inj G1.nd).mp (ej.trans ek.symm)
            omega
          · cases h
        · cases h
    · split at h
      · rename_i hz
        cases h
        exact ⟨Gc, Rel.cut _ _ hz r⟩
      · cases h
  · cases h
section
variable {P : Program} {w : World} {K : PySem.W.Frag} {mg : Str → Option Value} {base : Heap}
theorem fn_none {k n f fd ps} {fn : Fn} (hn : ∀ ds g, fn ds g = none) : FnOk P w K mg base CX0 k f fd ps (spD K n fn) :=
  ⟨fun vs H Q E ⟨_, ι, g, ds, d, g', _, _, h, _⟩ => (by rw [hn] at h; cases h), fun A outer s H args us vs Q E _ _ _ _ ⟨_, ι, g, ds, d, g', _, _, h, _⟩ => (by rw [hn] at h; cases h)⟩
theorem relS_start {K H ι ds vs} {N : List Str} (r : RelL K H ι ds vs) (hl : ds.length ≤ N.length) : RelS K H ι (ds.map some ++ List.replicate (N.length - ds.length) none) (L2.start N vs) := by
  have e := r.length
  refine ⟨by unfold L2.start; simp [e], fun i d q => ?_⟩
  have hi : i < ds.length := by
    by_cases hi : i < ds.length
    · exact hi
    · rw [List.getElem?_append_right (by simpa using hi), List.getElem?_replicate] at q
      split at q <;> cases q
  rw [List.getElem?_append_left (by simpa using hi), List.getElem?_map] at q
  cases hd : ds[i]? with
  | none => rw [hd] at q; cases q
  | some d' =>
    rw [hd] at q; cases q
    obtain ⟨v, hv, rv⟩ := r.get hd
    refine ⟨v, ?_, rv⟩
    unfold L2.start
    rw [List.getElem?_append_left (by rw [List.length_map, ← e]; exact hi), List.getElem?_map, hv]; rfl
theorem fn_ok {x qual : Str} {st : Stmt} {f : Addr} {fd : FuncData} {N ps : List Str} {k : Nat} {keep : Bool} {b : FS} (F : Fun K x qual st f fd) (S : FnScope N ps (defScope st)) (hN : ps.length ≤ N.length)
    (hb : ∀ (cdv : Value) (A : Around) (outer : List Env) (s : Shared) (H : Hp) (E : XK), Room k (A.deeper (envOfC qual (defScope st) s.heap.objs.size f cdv)) →
      DSs (cxOf CX0 P w K mg base N qual (defScope st) f cdv A outer s H E).nox (defBody st) b) : FnOk P w K mg base CX0 (k + 1) f fd ps (spD K ps.length (runFn keep N.length ps.length b)) := by
  refine F.ok S (fun vs H Q E h => h.1) (fun cdv A outer s H vs Q E hr h => ?_)
  obtain ⟨hl, ι, g, ds, d, g', G0, r, h, p⟩ := h
  refine ⟨_, (hb cdv A outer s H E hr).un, ?_⟩
  unfold runFn at h
  have hds : ds.length = ps.length := by rw [r.length]; exact hl
  rw [if_pos hds] at h
  obtain ⟨⟨r1, σ1, g1⟩, h1, h⟩ := bind_some h
  refine ⟨ι, _, g, r1, σ1, g1, G0, relS_start r (by rw [hds]; exact hN), by rw [hds]; exact h1, fun H1 ι1 e1 G1 => ?_⟩
  have fin : ∀ {dd v}, Rel K H1 ι1 dd v → (if keep then some (dd, g1) else settle g.length dd g1) = some (d, g') → Q v H1 := fun {dd v} rv hh => by
    cases keep with
    | true => simp only [if_true] at hh; cases hh; exact p H1 ι1 v e1 G1 rv
    | false =>
      simp only [Bool.false_eq_true, if_false] at hh
      obtain ⟨ι2, e2, G2, r2⟩ := settle_ok G0 e1 G1 rv hh
      exact p H1 ι2 v e2 G2 r2
  cases r1 with
  | rt dd => exact fun v rv => fin rv h
  | nx => exact fun σ' S' => fin (v := .non) (by simp [Rel]) h
  | bk => cases h
  | ct => cases h
end
section
variable {X : Cx} {x : Str} {p pos : Pos} {e : Expr} {es : List Expr} {fr : FA} {k : Nat} {f : Addr} {fd : FuncData} {ps : List Str} {fn : Fn} {n : Nat}
def fCall (fn : Fn) (fr : FA) : FE := fun σ g => (fr σ g).bind fun r => fn r.1 r.2
theorem tCall_of {K} {n : Nat} (hn : ∀ ds g r, fn ds g = some r → ds.length = n) {σ : L2.St} {H : Hp} {Q : VK} (h : tD K (fCall fn fr) σ H Q) : tCall (spD K n fn) [] E0 (tDA K fr) σ H Q := by
  obtain ⟨ι, σd, g, d, g', G0, S0, h, p⟩ := h
  obtain ⟨⟨ds, g1⟩, h1, h⟩ := bind_some h
  refine tDA.bind G0 S0 h1 fun H1 ι1 vs e1 G1 S1 r1 => ?_
  rw [List.append_nil]
  exact ⟨by rw [← r1.length]; exact hn _ _ _ h, ι1, g1, ds, d, g', G1, r1, h, p.mono e1⟩
theorem de_call (F : FnOk X.prog X.w X.K X.mg X.base CX0 k f fd ps (spD X.K n fn)) (hr : Room k X.A) (hm : X.mg x = some (.ref f)) (hk : PySem.W.keepIn X.K (.ref f) = true) (hb : Binds X.K fd ps []) (hn : ∀ ds g r, fn ds g = some r → ds.length = n)
    (ha : DA X (e :: es) fr) (hg : Gl X x := by rfl) (hdb : (x == ("__debug__" : Str)) = false := by decide) (he : starEach (e :: es) X.env = (false, eval e X.env) :: starEach es X.env := by rfl) (hpl : (backTo pos (starEach es X.env)).any (·.1) = false := by rfl) :
    DE X (.Call (.Name x p) (e :: es) [] pos) (fCall fn fr) := .of (
  PE.imp (pe_call F hr hg hm hk hb .nil pass0 ha.un hdb he hpl) fun σ H Q h => tCall_of hn h)
theorem runFn_len {keep : Bool} {nN nP : Nat} {b : FS} : ∀ ds g r, runFn keep nN nP b ds g = some r → ds.length = nP := fun ds g r h => by
  unfold runFn at h
  split at h
  · assumption
  · cases h
theorem de_callB {id : String} {o : Fn} (hc : CallR X (.builtin id) (rDL X.K o)) (hm : X.mg x = none) (hv : bootBuiltins x = some (.builtin id)) (ha : DA X (e :: es) fr) (hg : Gl X x := by rfl) (hn : x ≠ "__name__" := by decide) (hdb : (x == ("__debug__" : Str)) = false := by decide)
    (he : starEach (e :: es) X.env = (false, eval e X.env) :: starEach es X.env := by rfl) (hpl : (backTo pos (starEach es X.env)).any (·.1) = false := by rfl) : DE X (.Call (.Name x p) (e :: es) [] pos) (fCall o fr) := .of (
  PE.imp (pe_callB hc hg hm hv ha.un hn hdb he hpl) fun σ H Q h => by
    obtain ⟨ι, σd, g, d, g', G0, S0, h, p⟩ := h
    obtain ⟨⟨ds, g1⟩, h1, h⟩ := bind_some h
    exact tDA.bind G0 S0 h1 fun H1 ι1 vs e1 G1 S1 r1 => ⟨ι1, g1, ds, d, g', G1, r1, h, p.mono e1⟩)
theorem de_callTy {T : String} {o : Fn} (hc : CallR X (.type T) (rDL X.K o)) (hm : X.mg x = none) (hv : bootBuiltins x = some (.type T)) (ha : DA X (e :: es) fr) (hg : Gl X x := by rfl) (hn : x ≠ "__name__" := by decide) (hdb : (x == ("__debug__" : Str)) = false := by decide)
    (he : starEach (e :: es) X.env = (false, eval e X.env) :: starEach es X.env := by rfl) (hpl : (backTo pos (starEach es X.env)).any (·.1) = false := by rfl) : DE X (.Call (.Name x p) (e :: es) [] pos) (fCall o fr) := .of (
  PE.imp (pe_callTy hc hg hm hv ha.un hn hdb he hpl) fun σ H Q h => by
    obtain ⟨ι, σd, g, d, g', G0, S0, h, p⟩ := h
    obtain ⟨⟨ds, g1⟩, h1, h⟩ := bind_some h
    exact tDA.bind G0 S0 h1 fun H1 ι1 vs e1 G1 S1 r1 => ⟨ι1, g1, ds, d, g', G1, r1, h, p.mono e1⟩)
end
end L3
namespace L3
open PySem PySem.Spec PyProof.Rows L2
def clOf (scope : Scope) (env : Env) : List (Str × Addr) := (scope.names.filterMap fun x => if x.2 == .free then (env.cells.lookup x.1).map fun c => (x.1, c) else none).reverse
theorem closureFor_of {scope : Scope} {env : Env} (h : ∀ x ∈ scope.names, x.2 = .free → ∃ c, env.cells.lookup x.1 = some c) : closureFor scope env = pure (clOf scope env) := by
  have key : ∀ (l : List (Str × NameKind)) (acc : List (Str × Addr)), (∀ x ∈ l, x.2 = .free → ∃ c, env.cells.lookup x.1 = some c) →
      (forIn l acc fun x r => if (x.2 == NameKind.free) = true then (do let c ← cellOf env x.1; pure (ForInStep.yield ((x.1, c) :: r))) else pure (ForInStep.yield r) : Sem (List (Str × Addr))) =
        pure ((l.filterMap fun x => if x.2 == .free then (env.cells.lookup x.1).map fun c => (x.1, c) else none).reverse ++ acc) := by
    intro l
    induction l with
    | nil => intro acc _; rfl
    | cons x r ih =>
      intro acc hx
      rw [List.forIn_cons]
      by_cases hk : x.2 = .free
      · obtain ⟨c, hc⟩ := hx x List.mem_cons_self hk
        have hb : (x.2 == NameKind.free) = true := by rw [hk]; rfl
        rw [if_pos hb]
        simp only [cellOf, hc, pure_bind, List.filterMap_cons, hb, if_true, Option.map_some, List.reverse_cons, List.append_assoc, List.singleton_append]
        exact ih _ fun y hy => hx y (List.mem_cons_of_mem _ hy)
      · have hb : (x.2 == NameKind.free) = false := by simpa using hk
        simp only [hb, Bool.false_eq_true, if_false, pure_bind, List.filterMap_cons]
        exact ih _ fun y hy => hx y (List.mem_cons_of_mem _ hy)
  have := key scope.names [] h
  rw [List.append_nil] at this
  unfold closureFor clOf
  simp only [bind_pure_comp] at this ⊢
  first
    | (simpa using this)
    | exact this
def compCx (X : Cx) (N : List Str) (scope : Scope) (C : Addr) (s3 : Shared) (H : Hp) (fp : List Addr) (pins : List (Addr × Obj)) : Cx where
  prog := X.prog
  w := X.w
  K := X.K
  mg := X.mg
  base := X.base
  A := X.A
  N := N
  s₀ := s3
  H₀ := H
  env := compEnvC scope (clOf scope X.env) C X.env
  outer := X.stack
  stack := X.stack
  ex := fp
  calm := X.calm
  fn := fun _ => false
  pn := X.pn ++ pins
  xe := fun _ _ => False
structure CompOk (X : Cx) (N : List Str) (fr : List (Option Nat)) (scope : Scope) : Prop where
  kind : scope.kind = .function
  nocell : ∀ y ∈ scope.names, y.2 ≠ .cell
  names : ∀ y ∈ scope.names, y.2 = .local → scope.names.lookup y.1 = some .local
  free : ∀ y ∈ scope.names, y.2 = .free → scope.names.lookup y.1 = some .free ∧ (X.env.kindOf y.1 = some .cell ∨ X.env.kindOf y.1 = some .free)
  len : fr.length = N.length
  slots : ∀ (j i : Nat), fr[j]? = some (some i) → ∃ x, N[j]? = some x ∧ X.N[i]? = some x ∧ scope.names.lookup x = some .free
def subS {α : Type} (fr : List (Option Nat)) (σ : List (Option α)) : List (Option α) := fr.map fun o => match o with | some i => (σ[i]?).join | none => none
theorem relabel_kind {scope : Scope} {env : Env} : (relabel scope env).kind = scope.kind := rfl
theorem clOf_mem {scope : Scope} {env : Env} {x : Str} {c : Addr} (h : (x, c) ∈ clOf scope env) : (x, NameKind.free) ∈ scope.names ∧ env.cells.lookup x = some c := by
  unfold clOf at h
  rw [List.mem_reverse, List.mem_filterMap] at h
  obtain ⟨y, hy, e⟩ := h
  split at e
  · rename_i hk
    cases hc : env.cells.lookup y.1 with
    | none => rw [hc] at e; cases e
    | some c' =>
      rw [hc] at e
      cases e
      have : y.2 = NameKind.free := by simpa using hk
      exact ⟨by rw [← this]; exact hy, hc⟩
  · cases e
theorem lookup_mem_of {α : Type} : ∀ {l : List (Str × α)} {x : Str} {c : α}, (x, c) ∈ l → ∃ d, l.lookup x = some d
  | [], _, _, h => nomatch h
  | (y, d) :: r, x, c, h => by
    by_cases e : x = y
    · subst e; exact ⟨d, by simp⟩
    · rcases List.mem_cons.mp h with z | z
      · cases z; exact absurd rfl e
      · obtain ⟨d', q⟩ := lookup_mem_of z
        exact ⟨d', by rw [List.lookup_cons]; simp [show (x == y) = false by simpa using e, q]⟩
theorem clOf_lookup {scope : Scope} {env : Env} {x : Str} {c : Addr} (h : (clOf scope env).lookup x = some c) : (x, NameKind.free) ∈ scope.names ∧ env.cells.lookup x = some c := clOf_mem (PySem.mem_of_lookup h)
theorem clOf_has {scope : Scope} {env : Env} {x : Str} {c : Addr} (hx : (x, NameKind.free) ∈ scope.names) (hc : env.cells.lookup x = some c) : (clOf scope env).lookup x = some c := by
  have m : (x, c) ∈ clOf scope env := by
    unfold clOf
    rw [List.mem_reverse, List.mem_filterMap]
    exact ⟨_, hx, by simp [hc]⟩
  obtain ⟨d, q⟩ := lookup_mem_of m
  have := (clOf_lookup q).2
  rw [hc] at this; cases this
  exact q
theorem kind_relabel {scope : Scope} {env : Env} {x : Str} (h : (relabel scope env).names.lookup x = some .cell ∨ (relabel scope env).names.lookup x = some .free) (hn : ∀ y ∈ scope.names, y.2 ≠ .cell) : (x, NameKind.free) ∈ scope.names := by
  have m : ∃ k, (x, k) ∈ (relabel scope env).names ∧ (k = .cell ∨ k = .free) := by
    rcases h with h | h
    · exact ⟨_, PySem.mem_of_lookup h, .inl rfl⟩
    · exact ⟨_, PySem.mem_of_lookup h, .inr rfl⟩
  obtain ⟨k, m, hk⟩ := m
  unfold relabel at m
  rw [List.mem_map] at m
  obtain ⟨⟨n, k'⟩, hm, e⟩ := m
  dsimp only at e
  split at e
  · rename_i z
    cases e
    simp only [Bool.and_eq_true] at z
    have : k' = NameKind.free := by simpa using z.1.1
    subst this
    exact hm
  · cases e
    rcases hk with rfl | rfl
    · exact absurd rfl (hn _ hm)
    · exact hm
theorem lookup_relabel_free {env : Env} : ∀ {names : List (Str × NameKind)} {x : Str}, names.lookup x = some .free →
    (names.map fun (n, k) => if (k == NameKind.free && env.scope.kind == .function && env.kindOf n == some .cell) then (n, NameKind.cell) else (n, k)).lookup x = some .cell ∨
    (names.map fun (n, k) => if (k == NameKind.free && env.scope.kind == .function && env.kindOf n == some .cell) then (n, NameKind.cell) else (n, k)).lookup x = some .free
  | [], _, h => by simp at h
  | (n, k) :: r, x, h => by
    have ih := @lookup_relabel_free env r x
    show List.lookup x ((if (k == NameKind.free && env.scope.kind == .function && env.kindOf n == some .cell) = true then (n, NameKind.cell) else (n, k)) :: _) = _ ∨ List.lookup x ((if (k == NameKind.free && env.scope.kind == .function && env.kindOf n == some .cell) = true then (n, NameKind.cell) else (n, k)) :: _) = _
    cases hx : x == n with
    | true =>
      simp only [List.lookup_cons, hx] at h
      cases h
      split
      · left; simp [List.lookup_cons, hx]
      · right; simp [List.lookup_cons, hx]
    | false =>
      simp only [List.lookup_cons, hx] at h
      split
      · simp only [List.lookup_cons, hx]; exact ih h
      · simp only [List.lookup_cons, hx]; exact ih h
section
variable {X : Cx} {pins : List (Addr × Obj)} {σ : L2.St} {H : Hp} {s3 : Shared}
theorem comp_enter {N : List Str} {fr : List (Option Nat)} {scope : Scope} {fp : List Addr} {h1 : Heap} {tk : Nat} (ok : CompOk X N fr scope) (I : Inv X pins σ H s3) (hf : ∀ b ∈ fp, FpOk X pins H b) (hfl : ∀ b ∈ fp, b < s3.heap.objs.size)
    (hns : h1.Ns s3.heap.objs.size fun _ => none) (hk : ∀ b o, s3.heap.get? b = some o → h1.get? b = some o) :
    Inv (compCx X N scope s3.heap.objs.size s3 H fp pins) [] (subS fr σ) H { s3 with heap := h1, toks := tk } := by
  have I1 : Inv X pins σ H { s3 with heap := h1, toks := tk } := I.kept hk
  have stk : ∀ b ∈ frs X.stack, b ∈ X.env.locals :: X.fs := I.stkSub
  refine ⟨⟨I.ok.mod, ?_, I.ok.glob, I.ok.blt, Nat.le_refl _, ?_, ?_, (fun x c z => Bool.noConfusion (show false = true from z)), I.ok.hd, I.ok.frames, .inl rfl, ?_, I.bs, Nat.le_trans I.ok.bsz I.sz, ?_, ?_, I.stack, I.stkFree⟩, rfl, I.bare, Un.kept hk,
    ⟨_, hns, ?_⟩, ?_, I.hok.fresh (Nat.le_refl _), ?_, ?_, I1.hok, ?_⟩
  · show (relabel scope X.env).kind = .function
    rw [relabel_kind]; exact ok.kind
  · intro x y c h1 h2
    exact I.ok.inj x y c (clOf_lookup h1).2 (clOf_lookup h2).2
  · intro x hx
    have m := kind_relabel (scope := scope) (env := X.env) hx ok.nocell
    obtain ⟨c, hc⟩ := I.ok.has x (ok.free _ m rfl).2
    exact ⟨c, clOf_has m hc⟩
  · intro b hb
    refine ⟨Nat.ne_of_lt (hfl b hb), fun x c e => ?_⟩
    exact (hf b hb).2.2.2.2.1 x c (clOf_lookup e).2
  · intro b o e hb
    obtain ⟨_, _, _, z, _⟩ := hf b hb
    rcases z with z | z
    · exact I.ok.noex b o e z
    · exact absurd (Nat.lt_of_lt_of_le (Nat.lt_of_lt_of_le (Heap.lt_size e) I.ok.bsz) z) (Nat.lt_irrefl _)
  · intro b hb z
    obtain ⟨_, n1, n2, _⟩ := hf b hb
    rcases List.mem_cons.mp (stk b z) with q | q
    · exact n1 q
    · exact n2 q
  · intro j x v h1 h2 h3
    have h2' : (subS fr σ)[j]? = some (some v) := h2
    unfold subS at h2'
    rw [List.getElem?_map] at h2'
    cases hfr : fr[j]? with
    | none => rw [hfr] at h2'; cases h2'
    | some o =>
      rw [hfr] at h2'
      cases o with
      | none => cases h2'
      | some i =>
        obtain ⟨y, hy, hi, hfree⟩ := ok.slots j i hfr
        have e : x = y := by
          have h1' : N[j]? = some x := h1
          rw [hy] at h1'; cases h1'; rfl
        subst e
        have hσ : σ[i]? = some (some v) := by
          simp only [Option.map_some, Option.some.injEq] at h2'
          cases q : σ[i]? with
          | none => rw [q] at h2'; cases h2'
          | some w => rw [q] at h2'; simp at h2'; rw [h2']
        have m := PySem.mem_of_lookup hfree
        obtain ⟨_, hkind⟩ := ok.free _ m rfl
        obtain ⟨mm, hn, hl⟩ := I1.loc
        obtain ⟨u, ru, lk⟩ := hl i x v hi hσ (by rcases hkind with k | k; exact .inr (.inl k); exact .inr (.inr k))
        refine ⟨u, ru, .inr ⟨lookup_relabel_free hfree, ?_⟩⟩
        rcases lk with ⟨kl, _⟩ | ⟨_, c, hc, hcell⟩
        · rcases hkind with k | k <;> (rw [k] at kl; cases kl)
        · exact ⟨c, clOf_has m hc, hcell⟩
  · intro x c e
    exact I1.cell x c (clOf_lookup e).2
  · intro x c e
    exact I.freeC x c (clOf_lookup e).2
  · intro p hp
    have hp' : p ∈ X.pn ++ pins := by
      have q : p ∈ (X.pn ++ pins) ++ [] := hp
      simpa using q
    obtain ⟨e, n, ne, nf, d⟩ := I1.pin p hp'
    refine ⟨e, n, Nat.ne_of_lt ?_, fun z => ?_, d⟩
    · exact Heap.lt_size (I.pin p hp').1
    · rcases List.mem_cons.mp (stk _ z) with q | q
      · exact ne q
      · exact nf q
  · show (subS fr σ).length = N.length
    unfold subS; rw [List.length_map]; exact ok.len
end
def compL (t : FG) (c : FT) (e : FE) : List D → Sg → G → Option (List D × G)
  | [], _, g => some ([], g)
  | d :: ds, σ, g => (t d σ g).bind fun q => (c q.1 q.2).bind fun k => if k.1 = true then (e q.1 k.2).bind fun r => (compL t c e ds q.1 r.2).bind fun z => some (r.1 :: z.1, z.2) else compL t c e ds q.1 k.2
def PIfs (X : Cx) (ifs : List Expr) (t : TT) : Prop :=
  ∀ (pins : List (Addr × Obj)) (s : Shared) (σ : L2.St) (H : Hp) (Q : Bool → Hp → Prop), Inv X pins σ H s → t σ H Q →
    wpAny (model X.prog X.w) X.A (forIn ifs true fun c r => if r = true then do let ok ← isTrue c X.env (eval c X.env); pure (ForInStep.yield ok) else pure (ForInStep.yield r)) (TP X pins σ Q) X.xe s
structure DIfs (X : Cx) (ifs : List Expr) (f : FT) : Prop where of ::
  un : PIfs X ifs (tDT X.K f)
def fTrue : FT := fun _ g => some (true, g)
theorem difs_nil {X : Cx} : DIfs X [] fTrue := .of (fun pins s σ H Q I h => by
  obtain ⟨ι, σd, g, b, g', G0, S0, h, p⟩ := h
  cases h
  exact wpAny_tests_nil ⟨H, I, p H ι Ext.refl G0⟩)
theorem difs_one {X : Cx} {c : Expr} {f : FT} (h : DT X c f) : DIfs X [c] f := .of (fun pins s σ H Q I q => wpAny_tests_one (h.un pins s σ H Q I q))
theorem Ext.hideT {H1 ι1 H' ιo p H'' ι''} (a : Ext H1 ι1 H' ιo) (b : Ext H' (Ix.hide ιo p) H'' ι'') : Ext H1 ι1 H'' ⟨ι''.ix, ιo.hd⟩ ∧ ι'' = Ix.hide ⟨ι''.ix, ιo.hd⟩ p := by
  have hh : ι''.hd = p :: ιo.hd := b.hid
  obtain ⟨m1, e1, f1⟩ := a.more
  obtain ⟨m2, e2, f2⟩ := b.more
  refine ⟨⟨fun c o h n => b.same c o (a.same c o h n) (a.old h n), fun c h => b.there c (a.there c h), ⟨m1 ++ m2, ?_, fun c z => ?_⟩, a.hid⟩, ?_⟩
  · show ι''.ix = _
    rw [e2]; show ιo.ix ++ m2 = _
    rw [e1, List.append_assoc]
  · rcases List.mem_append.mp z with z | z
    · exact f1 c z
    · cases q : H1 c with
      | none => rfl
      | some o => exact absurd (f2 c z) (a.there c (by rw [q]; simp))
  · cases ι'' with
    | mk ix hd => dsimp only at hh; rw [hh]; rfl
theorem Ext.growN {H1 ι1 H' ιo p o} (a : Ext H1 ι1 H' ιo) (hp : H1 p = none) : Ext H1 ι1 (upd H' p o) ιo :=
  ⟨fun c u h n => by rw [upd_ne (ne_of_none h hp)]; exact a.same c u h n, fun c h => by
    by_cases e : c = p
    · subst e; rw [upd_same]; simp
    · rw [upd_ne e]; exact a.there c h, a.more, a.hid⟩
theorem Ext.exhH {H1 ι1 H' ιo p} (a : Ext H1 ι1 H' ιo) (hp : H1 p = none) : Exh H1 ι1 H' (Ix.hide ιo p) :=
  ⟨a.same, a.there, a.more, ⟨[p], by show p :: ιo.hd = _; rw [a.hid]; rfl, fun b z => by simp at z; subst z; exact hp⟩⟩
inductive CompI (X' : Cx) (t : FG) (c : FT) (e : FE) (fp : List Addr) (Dl : Addr) (tn : Nat → Heap → Prop) (ds all : List D) (H1 : Hp) (ι1 : Ix) (g' : G) (n : Nat) (s : Shared) : Prop
  | mk (i : Nat) (σ : L2.St) (H : Hp) (ιo : Ix) (σd : Sg) (g : G) (vs : List V) (acc more : List D) (hn : n = ds.length + 1 - i) (hil : i ≤ ds.length) (I : Inv X' [] σ H s) (ti : tn i s.heap) (fri : ∀ b ∈ fp, H b = none) (E1 : Ext H1 ι1 H ιo) (G1 : RelG X'.K H (Ix.hide ιo Dl) g) (S1 : RelS X'.K H (Ix.hide ιo Dl) σd σ)
      (hHD : H Dl = some (.lst vs)) (racc : RelL X'.K H (Ix.hide ιo Dl) acc vs) (hal : acc.length ≤ i) (hf : compL t c e (ds.drop i) σd g = some (more, g')) (ea : all = acc ++ more) : CompI X' t c e fp Dl tn ds all H1 ι1 g' n s
theorem comp_loop {X' : Cx} {tg iter elt : Expr} {ifs : List Expr} {scope : Scope} {pos : Pos} {t : FG} {c : FT} {e : FE} {J : It} {fp : List Addr} {it Dl : Addr} {tn : Nat → Heap → Prop} {ds all : List D} {H1 : Hp} {ι1 : Ix} {g' : G} {R : Result → Shared → Prop}
    (hxe : X'.xe = fun _ _ => False) (hc : X'.calm = true) (T : Turn X'.prog X'.w X'.K tg J fp it tn) (hfp : ∀ b ∈ fp, FpOk X' [] X'.H₀ b) (J1 : ItOk X'.K J H1 ι1 ds) (hD : H1 Dl = none) (hz : ds.length ≤ sizeLine)
    (hg : DG X' tg t) (hi : DIfs X' ifs c) (he : DE X' elt e)
    (fin : ∀ s' σ' H' ιo vs, Inv X' [] σ' H' s' → (∀ b ∈ fp, H' b = none) → Ext H1 ι1 H' ιo → RelG X'.K H' (Ix.hide ιo Dl) g' → H' Dl = some (.lst vs) → RelL X'.K H' (Ix.hide ιo Dl) all vs → R (.ok .next) s') :
    ∀ (s : Shared) (σ : L2.St) (H : Hp) (ιo : Ix) (σd : Sg) (g : G), Inv X' [] σ H s → tn 0 s.heap → (∀ b ∈ fp, H b = none) → Ext H1 ι1 H ιo → RelG X'.K H (Ix.hide ιo Dl) g → RelS X'.K H (Ix.hide ιo Dl) σd σ → H Dl = some (.lst []) → compL t c e ds σd g = some (all, g') →
      codeAny (model X'.prog X'.w) X'.A (.compLoop (.ListComp elt [⟨tg, iter, ifs, 0⟩] scope pos) 0 (.ref it) (.ref Dl) X'.env) R s := by
  intro s σ H ιo σd g I t0 fr0 E0 G0 S0 hH hf0
  have stat : ∀ {H' : Hp}, (∀ b ∈ fp, H' b = none) → ∀ b ∈ fp, FpOk X' [] H' b := fun hn b hb => ⟨hn b hb, (hfp b hb).2⟩
  refine codeAny_loop rfl (CompI X' t c e fp Dl tn ds all H1 ι1 g') ?_ (ds.length + 1)
    ⟨0, σ, H, ιo, σd, g, [], [], all, rfl, Nat.zero_le _, I, t0, fr0, E0, G0, S0, hH, by simp [RelL], Nat.le_refl _, by simpa using hf0, rfl⟩
  clear hf0 hH S0 G0 E0 fr0 t0 I g σd ιo H σ s
  rintro n s ⟨i, σ, H, ιo, σd, g, vs, acc, more, rfl, hil, I, ti, fri, E1, G1, S1, hHD, racc, hal, hf, rfl⟩
  show wpAny _ X'.A ((compTurn (.ListComp elt [⟨tg, iter, ifs, 0⟩] scope pos) 0 (.ref it) (.ref Dl) X'.env).onRaise (fun x => do noteFrame x X'.env; theTreesLotGoes x)) _ _ s
  refine wpAny_noted ?_
  rw [compTurn_list]
  refine wpAny_bind (wpAny_standAt (wpAny_bind ?_))
  obtain ⟨st, go⟩ := J1 i H (Ix.hide ιo Dl) g (E1.exhH hD) G1
  by_cases hlt : i < ds.length
  · obtain ⟨go, yl⟩ := go ds[i] (List.getElem?_eq_getElem hlt)
    refine thn (T.item X' rfl rfl rfl hc i [] s σ H _ I (stat fri) ti go) fun r s4 ⟨u, hr, h4⟩ => ?_
    subst hr
    refine wpAny_bind (thn h4 fun _ s5 ⟨x, H5, I5, r5, y5, t5, fr5⟩ => ?_)
    obtain ⟨e5, G5, rd5⟩ := yl x H5 y5
    rw [List.drop_eq_getElem_cons hlt] at hf
    simp only [compL] at hf
    obtain ⟨⟨σ6, g6⟩, h6, hf⟩ := bind_some hf
    obtain ⟨⟨k7, g7⟩, h7, hf⟩ := bind_some hf
    have I5' := I5.pinned (stat fr5) (T.obj _ _ t5)
    have lift : ∀ {α : Type} {tr : Sem α} {Q : α → Shared → Prop} {E : Value → Shared → Prop} {s : Shared}, wpAny (model X'.prog X'.w) X'.A tr Q X'.xe s → wpAny (model X'.prog X'.w) X'.A tr Q E s := fun h => wpAny_mono h (fun _ _ q => q) fun _ _ z => by rw [hxe] at z; exact z.elim
    have again : ∀ {s9 : Shared} {σ9 : L2.St} {H9 : Hp} {ι9 : Ix} {σd9 : Sg} {g9 : G} {vs9 : List V} {acc9 : List D} {more9 : List D}, Inv X' ([] ++ pinsAt fp s5.heap) σ9 H9 s9 → Ext H1 ι1 H9 ι9 → RelG X'.K H9 (Ix.hide ι9 Dl) g9 → RelS X'.K H9 (Ix.hide ι9 Dl) σd9 σ9 →
        H9 Dl = some (.lst vs9) → RelL X'.K H9 (Ix.hide ι9 Dl) acc9 vs9 → acc9.length ≤ i + 1 → compL t c e (ds.drop (i + 1)) σd9 g9 = some (more9, g') → acc ++ more = acc9 ++ more9 →
        ∃ m, m < ds.length + 1 - i ∧ CompI X' t c e fp Dl tn ds (acc ++ more) H1 ι1 g' m s9 := by
      intro s9 σ9 H9 ι9 σd9 g9 vs9 acc9 more9 I9 E9 G9 S9 h9 r9 l9 f9 a9
      refine ⟨ds.length + 1 - (i + 1), by omega, i + 1, σ9, H9, ι9, σd9, g9, vs9, acc9, more9, rfl, hlt, I9.unpinned, T.keep _ _ _ t5 fun b hb o e => (I9.pin (b, o) (List.mem_append_right _ (List.mem_append_right _ (mem_pinsAt hb e)))).1, fun b hb => ?_, E9, G9, S9, h9, r9, l9, f9, a9⟩
      obtain ⟨o, e, d⟩ := T.obj _ _ t5 b hb
      exact (I9.pin (b, o) (List.mem_append_right _ (List.mem_append_right _ (mem_pinsAt hb e)))).2.1
    refine wpAny_bind (lift (thn (hg.un _ s5 σ H5 x u (fun σ' H' => ∃ ι6, Ext H5 (Ix.hide ιo Dl) H' ι6 ∧ RelG X'.K H' ι6 g6 ∧ RelS X'.K H' ι6 σ6 σ') I5' r5 ⟨Ix.hide ιo Dl, σd, g, ds[i], σ6, g6, G5, S1.ext e5, rd5, h6, fun H6 ι6 σ6' e6 G6 S6 => ⟨ι6, e6, G6, S6⟩⟩) fun _ s6 q6 => ?_))
    obtain ⟨σ6', H6, I6, ι6, e6, G6, S6⟩ := q6
    refine wpAny_bind (lift (thn (hi.un _ s6 σ6' H6 (fun b H' => b = k7 ∧ ∃ ι7, Ext H6 ι6 H' ι7 ∧ RelG X'.K H' ι7 g7) I6 ⟨ι6, σ6, g6, k7, g7, G6, S6, h7, fun H7 ι7 e7 G7 => ⟨rfl, ι7, e7, G7⟩⟩) fun ok s7 q7 => ?_))
    obtain ⟨H7, I7, rfl, ι7, e7, G7⟩ := q7
    have e57 := (e5.trans e6).trans e7
    obtain ⟨E7, ei7⟩ := E1.hideT e57
    have hD7 : H7 Dl = some (.lst vs) := e57.same Dl _ hHD (G1.hid Dl List.mem_cons_self).1
    have r7 := RelL.ext e57 _ racc
    have S7 := S6.ext e7
    cases ok with
    | false =>
      simp only [Bool.false_eq_true, if_false] at hf
      refine wpAny_pure ⟨rfl, ?_⟩
      rw [ei7] at G7 S7 r7
      exact again I7 E7 G7 S7 hD7 r7 (by omega) hf rfl
    | true =>
      simp only [if_true] at hf
      obtain ⟨⟨d8, g8⟩, h8, hf⟩ := bind_some hf
      obtain ⟨⟨more9, g9⟩, h9, hf⟩ := bind_some hf
      obtain ⟨rfl, rfl⟩ : d8 :: more9 = more ∧ g9 = g' := by cases hf; exact ⟨rfl, rfl⟩
      refine wpAny_bind (wpAny_bind (lift (thn (he.un _ s7 σ6' H7 (fun v H' => ∃ ι8, Ext H7 ι7 H' ι8 ∧ RelG X'.K H' ι8 g8 ∧ Rel X'.K H' ι8 d8 v) I7 ⟨ι7, σ6, g7, d8, g8, G7, S7, h8, fun H8 ι8 v e8 G8 r8 => ⟨ι8, e8, G8, r8⟩⟩) fun y s8 q8 => ?_)))
      obtain ⟨v8, H8, I8, rv8, ι8, e8, G8, r8⟩ := q8
      have e58 := e57.trans e8
      obtain ⟨E8, ei8⟩ := E1.hideT e58
      have hD8 : H8 Dl = some (.lst vs) := e58.same Dl _ hHD (G1.hid Dl List.mem_cons_self).1
      have racc8 := RelL.ext e58 _ racc
      have S8 := S7.ext e8
      have hlen : vs.length < sizeLine := by rw [← racc.length]; omega
      rw [ei8] at G8 S8 racc8 r8
      refine wpAny_bind (lift (thn (mt_append (X := X') _ s8 σ6' H8 (.ref Dl) [v8] (.ref Dl) [y] (fun _ H' => H' = upd H8 Dl (.lst (vs ++ [v8]))) I8 rfl (.cons rv8 .nil) ⟨Dl, vs, v8, rfl, rfl, hD8, hlen, rfl⟩) fun _ s9 q9 => ?_))
      obtain ⟨_, H9, I9, _, rfl⟩ := q9
      refine wpAny_pure (wpAny_pure ⟨rfl, ?_⟩)
      refine again (acc9 := acc ++ [d8]) I9 (E8.growN hD) (G8.grow hD8) ⟨S8.1, fun j d q => let ⟨v, a, b⟩ := S8.2 j d q; ⟨v, a, Rel.grow hD8 d b⟩⟩ upd_same ?_ (by simp; omega) h9 (by simp)
      exact RelL.append (RelL.grow hD8 _ racc8) (by simp only [RelL]; exact ⟨v8, [], rfl, Rel.grow hD8 _ r8, rfl⟩)
  · have ei : i = ds.length := by omega
    subst ei
    simp only [List.drop_length, compL] at hf
    cases hf
    refine thn (T.done X' rfl rfl rfl hc _ [] s σ H _ I (stat fri) ti (st (Nat.le_refl _))) fun r s4 ⟨hr, I4⟩ => ?_
    subst hr
    exact wpAny_pure (fin s4 σ H ιo vs I4 fri E1 G1 hHD (by simpa using racc))
def fComp (mk : List D → G → Option (D × G)) (fi : FI) (fr : List (Option Nat)) (t : FG) (c : FT) (e : FE) : FE := fun σ g => (fi σ g).bind fun r => if szOk r.1.length = true then (compL t c e r.1 (subS fr σ) r.2).bind fun q => mk q.1 q.2 else none
def cLst (ds : List D) (g : G) : Option (D × G) := some (.lst ds, g)
theorem RelS.sub {K H ι σd σ} (fr : List (Option Nat)) (h : RelS K H ι σd σ) : RelS K H ι (subS fr σd) (subS fr σ) := by
  refine ⟨by simp [subS], fun j d q => ?_⟩
  unfold subS at q ⊢
  rw [List.getElem?_map] at q ⊢
  cases hf : fr[j]? with
  | none => rw [hf] at q; cases q
  | some o =>
    rw [hf] at q
    cases o with
    | none => cases q
    | some i =>
      have hσ : σd[i]? = some (some d) := by
        simp only [Option.map_some, Option.some.injEq] at q
        cases z : σd[i]? with
        | none => rw [z] at q; cases q
        | some w => rw [z] at q; simp at q; rw [q]
      obtain ⟨v, hv, rv⟩ := h.2 i d hσ
      exact ⟨v, by simp [hv], rv⟩
section
variable {X : Cx} {tg iter elt : Expr} {ifs : List Expr} {scope : Scope} {pos cpos : Pos} {N : List Str} {fr : List (Option Nat)} {fi : FI} {t : FG} {c : FT} {e : FE}
theorem comp_core {pins : List (Addr × Obj)} {s : Shared} {σ : L2.St} {H : Hp} {ι : Ix} {σd : Sg} {g g1 g' : G} {ds all : List D} {use : Option (Value → Sem Unit)} {Q : Value → Shared → Prop}
    (hxe : X.xe = fun _ _ => False) (hc : X.calm = true) (ok : CompOk X N fr scope) (hit : DI X tg iter fi) (hin : ∀ C s3 H fp pins, DG (compCx X N scope C s3 H fp pins) tg t ∧ DIfs (compCx X N scope C s3 H fp pins) ifs c ∧ DE (compCx X N scope C s3 H fp pins) elt e)
    (hs : ∀ x, foldedSetIterable iter X.env x = pure x) (I : Inv X pins σ H s) (G0 : RelG X.K H ι g) (S0 : RelS X.K H ι σd σ) (h1 : fi σd g = some (ds, g1)) (hz : szOk ds.length = true) (h2 : compL t c e ds (subS fr σd) g1 = some (all, g'))
    (fin : ∀ s' H' ιo vs Dl C, Inv X pins σ H' s' → FpOk X pins H' C → (∃ m, s'.heap.Ns C m) → Ext H ι H' ιo → RelG X.K H' (Ix.hide ιo Dl) g' → H' Dl = some (.lst vs) → RelL X.K H' (Ix.hide ιo Dl) all vs → Dl ∉ ιo.hd → H Dl = none → compPost (model X.prog X.w) X.A X.xe use Q (.ref Dl) C (.ok .next) s') :
    wpAny (model X.prog X.w) X.A (comprehension (.ListComp elt [⟨tg, iter, ifs, 0⟩] scope pos) scope X.env cpos (newList []) false (eval iter X.env) use) Q X.xe s := by
  have free : ∀ x ∈ scope.names, x.2 = .free → ∃ c, X.env.cells.lookup x.1 = some c := fun x hx hk => I.ok.has x.1 (ok.free x hx hk).2
  refine wpAny_comprehension_free (use := use) rfl hs (closureFor_of free) ok.kind ok.names (thn (hit.un pins s σ H (fun J H' => ∃ ι1, Ext H ι H' ι1 ∧ RelG X.K H' ι1 g1 ∧ ItOk X.K J H' ι1 ds) I ⟨ι, σd, g, ds, g1, G0, S0, h1, fun H1 ι1 J e1 G1 J1 => ⟨ι1, e1, G1, J1⟩⟩) fun xv s1 h1' => thn h1' fun itv s2 q2 => ?_)
  obtain ⟨it, fp, tn, J, H1, rfl, I1, T, t1, f1, ι1, e1, G1, J1⟩ := q2
  refine wpAny_newObj_type ?_
  have hDn : H1 s2.heap.objs.size = none := I1.hok.fresh (Nat.le_refl _)
  generalize hs3 : ({ s2 with heap := s2.heap.push { cls := .type "list", dict := none, data := .seq ([] : List Value).toArray } } : Shared) = s3
  have I3 : Inv X pins σ (upd H1 s2.heap.objs.size (.lst [])) s3 := by
    rw [← hs3]
    exact I1.laid (t' := s2.toks) (fun b u e => Heap.get?_push_of_some _ e) (Nat.le_refl _) ⟨Nat.zero_le _, [], 0, .nil, Heap.get?_push_size _ rfl⟩
  have k3 : ∀ b o, s2.heap.get? b = some o → s3.heap.get? b = some o := fun b o e => by rw [← hs3]; exact Heap.get?_push_of_some _ e
  have sz3 : s3.heap.objs.size = s2.heap.objs.size + 1 := by rw [← hs3]; exact Heap.size_push ..
  have hfl : ∀ b ∈ fp, b < s2.heap.objs.size := fun b hb => let ⟨o, eo, _⟩ := T.obj _ _ t1 b hb; Heap.lt_size eo
  have f3 : ∀ b ∈ fp, FpOk X pins (upd H1 s2.heap.objs.size (.lst [])) b := fun b hb => ⟨by rw [upd_ne (Nat.ne_of_lt (hfl b hb))]; exact (f1 b hb).1, (f1 b hb).2⟩
  refine wpAny_newFunctionEnv ok.nocell (by intro y hy; simp at hy) (fun h4 hns hsb => ?_) ok.kind
  have k4 : ∀ b o, s3.heap.get? b = some o → h4.get? b = some o := fun b o e => hsb.extBut b o (Nat.ne_of_lt (Heap.lt_size e)) (Heap.get?_push_of_some _ e)
  have hns' : h4.Ns s3.heap.objs.size fun _ => none := by simpa using hns
  have I4 := comp_enter (tk := s3.toks + ([] : List (Str × Value)).length) ok I3 f3 (fun b hb => by rw [sz3]; exact Nat.lt_succ_of_lt (hfl b hb)) hns' k4
  obtain ⟨hg, hi, he⟩ := hin s3.heap.objs.size s3 (upd H1 s2.heap.objs.size (.lst [])) fp pins
  have t4 : tn 0 h4 := T.keep _ _ _ t1 fun b hb o e => k4 b o (k3 b o e)
  have fx : ∀ b ∈ fp, FpOk (compCx X N scope s3.heap.objs.size s3 (upd H1 s2.heap.objs.size (.lst [])) fp pins) [] (upd H1 s2.heap.objs.size (.lst [])) b := fun b hb => by
    refine ⟨(f3 b hb).1, ?_, ?_, .inl hb, ?_, ?_⟩
    · exact Nat.ne_of_lt (by rw [sz3]; exact Nat.lt_succ_of_lt (hfl b hb))
    · exact I4.ok.exfs b hb
    · exact (I4.ok.exf b hb).2
    · intro p hp
      have hp' : p ∈ X.pn ++ pins := by
        have q : p ∈ (X.pn ++ pins) ++ [] := hp
        simpa using q
      exact (f1 b hb).2.2.2.2.2 p hp'
  have loop : codeAny (model X.prog X.w) X.A (.compLoop (.ListComp elt [⟨tg, iter, ifs, 0⟩] scope pos) 0 (.ref it) (.ref s2.heap.objs.size) (compEnvC scope (clOf scope X.env) s3.heap.objs.size X.env))
      (compPost (model X.prog X.w) X.A X.xe use Q (.ref s2.heap.objs.size) s3.heap.objs.size) { s3 with heap := h4, toks := s3.toks + ([] : List (Str × Value)).length } := by
    refine comp_loop (X' := compCx X N scope s3.heap.objs.size s3 (upd H1 s2.heap.objs.size (.lst [])) fp pins) (all := all) (g' := g') rfl hc T fx J1 hDn (szOk.le hz) hg hi he ?_ _ _ _ ι1 (subS fr σd) g1 I4 t4 (fun b hb => (f3 b hb).1) ((Ext.refl (H := H1) (ι := ι1)).growN hDn) (G1.hide hDn) ?_ upd_same h2
    · intro s' σ' H' ιo vs I' fr' E' G' hD' r'
      have I5 : Inv X pins σ H' s' := I3.call' (ch := fp) I'.os I'.base I'.hok I'.bare fun b hb => ⟨(f3 b hb).2.2.2.1, (f3 b hb).2.1, (f3 b hb).2.2.2.2.1, (f3 b hb).2.2.2.2.2⟩
      obtain ⟨m, hm, _⟩ := I'.loc
      refine fin s' H' ιo vs _ _ I5 ?_ ⟨m, hm⟩ (e1.trans E') G' hD' r' ?_ ?_
      · have z := I3.fpOk (H' := H') (b := s3.heap.objs.size) (Nat.le_refl _) I'.free
        exact z
      · rw [E'.hid]; exact G1.freshH hDn
      · cases q : H s2.heap.objs.size with
        | none => rfl
        | some o => exact absurd hDn (e1.there _ (by rw [q]; simp))
    · have S1 : RelS X.K H1 ι1 (subS fr σd) (subS fr σ) := (S0.ext e1).sub fr
      exact ⟨S1.1, fun j d q => let ⟨v, a, b⟩ := S1.2 j d q; ⟨v, a, Rel.hide hDn d b⟩⟩
  exact codeAny_compStart_list loop (T.self _ 0 _ _ _ t4 loop)
theorem comp_val {H ι H' ιo K g' all vs Dl d gg Q} (e : Ext H ι H' ιo) (G' : RelG K H' (Ix.hide ιo Dl) g') (hD : H' Dl = some (.lst vs)) (r : RelL K H' (Ix.hide ιo Dl) all vs) (hn : Dl ∉ ιo.hd) (hm : cLst all g' = some (d, gg)) (p : Post K H ι d gg Q) : Q (.ref Dl) H' := by
  cases hm
  refine p H' ιo _ e G'.show ?_
  simp only [Rel]
  exact ⟨Dl, vs, rfl, .inl ⟨.inl hD, (G'.hid Dl List.mem_cons_self).1, hn⟩, RelL.show _ r⟩
end
end L3
namespace L3
open PySem PySem.Spec PyProof.Rows L2
section
variable {X : Cx} {tg iter elt : Expr} {ifs : List Expr} {scope : Scope} {pos cpos : Pos} {N : List Str} {fr : List (Option Nat)} {fi : FI} {t : FG} {c : FT} {e : FE}
theorem de_comp (hxe : X.xe = fun _ _ => False) (hc : X.calm = true) (ok : CompOk X N fr scope) (hit : DI X tg iter fi) (hin : ∀ C s3 H fp pins, DG (compCx X N scope C s3 H fp pins) tg t ∧ DIfs (compCx X N scope C s3 H fp pins) ifs c ∧ DE (compCx X N scope C s3 H fp pins) elt e)
    (hs : ∀ x, foldedSetIterable iter X.env x = pure x := by intro _; rfl) : DE X (.ListComp elt [⟨tg, iter, ifs, 0⟩] scope pos) (fComp cLst fi fr t c e) := .of (by
  intro pins s σ H Q I h
  obtain ⟨ι, σd, g, d, gg, G0, S0, h, p⟩ := h
  obtain ⟨⟨ds, g1⟩, h1, h⟩ := bind_some h
  dsimp only at h
  split at h
  · rename_i hz
    obtain ⟨⟨all, g'⟩, h2, h⟩ := bind_some h
    rw [eval_ListComp]
    refine comp_core (use := none) hxe hc ok hit hin hs I G0 S0 h1 hz h2 fun s' H' ιo vs Dl C I' fC ⟨m, hm⟩ e' G' hD r hn hf0 => ?_
    refine ⟨m, hm, fun h'' sb => ⟨.ref Dl, H', ?_, rfl, comp_val e' G' hD r hn h p⟩⟩
    obtain ⟨f0, f1, f2, f3, f4, f5⟩ := fC
    exact I'.turned (t' := s'.toks) (fun b o hb e => sb.extBut b o hb e) f0 f1 f3 f4 f5
  · cases h)
theorem setcomp_core {mk : List D → G → Option (D × G)} {i : Nat} {x : Str} {px spos : Pos} (hmk : ∀ {H ι H' ιo g' all vs Dl d gg Q}, Ext H ι H' ιo → H Dl = none → RelG X.K H' (Ix.hide ιo Dl) g' → H' Dl = some (.lst vs) → RelL X.K H' (Ix.hide ιo Dl) all vs → Dl ∉ ιo.hd → mk all g' = some (d, gg) → Post X.K H ι d gg Q → Q (.ref Dl) H')
    (hxe : X.xe = fun _ _ => False) (hc : X.calm = true) (ok : CompOk X N fr scope) (hit : DI X tg iter fi) (hin : ∀ C s3 H fp pins, DG (compCx X N scope C s3 H fp pins) tg t ∧ DIfs (compCx X N scope C s3 H fp pins) ifs c ∧ DE (compCx X N scope C s3 H fp pins) elt e)
    (hN : X.N.Nodup) (hi : X.N[i]? = some x) (hx : Loc X.env.scope x)
    (hsw : swapsWith (.ListComp elt [⟨tg, iter, ifs, 0⟩] scope pos) (some (.Name x px)) spos.line X.env = pure true)
    (hs : ∀ x, foldedSetIterable iter X.env x = pure x) (hf : X.fn x = true ∨ X.env.scope.names.lookup x = some .local) : DS X (.Assign [.Name x px] (.ListComp elt [⟨tg, iter, ifs, 0⟩] scope pos) spos) (fAsg (fComp mk fi fr t c e) (gN i)) := .of (by
  intro pins s σ H Dn I h
  obtain ⟨ι, σd, g, r, σd', gg, G0, S0, h0, p⟩ := h
  obtain ⟨⟨d, gg'⟩, h1', hr⟩ := bind_some h0
  have hr' : some (F.nx, σd.set i (some d), gg') = some (r, σd', gg) := hr
  clear h0
  obtain ⟨⟨ds, g1⟩, h1, h3⟩ := bind_some (x := fi σd g) h1'
  dsimp only at h3
  split at h3
  · rename_i hz
    obtain ⟨⟨all, g'⟩, h2, h4⟩ := bind_some h3
    rw [exec_Assign_Name_used _ _ _ _ hsw]
    refine wpAny_bind (wpAny_standAt (wpAny_bind ?_))
    show wpAny _ X.A (do let _ ← comprehension (.ListComp elt [⟨tg, iter, ifs, 0⟩] scope pos) scope X.env _ (newList []) false (eval iter X.env) (some (assign (.Name x px) X.env))) _ _ s
    refine wpAny_bind (wpAny_mono (comp_core (use := some (assign (.Name x px) X.env)) (Q := fun _ s' => SP X pins Dn .next s') hxe hc ok hit hin hs I G0 S0 h1 hz h2 fun s' H' ιo vs Dl C I' fC ⟨m, hm⟩ e' G' hD r hn hf0 => ?_) (fun _ s' hq => wpAny_pure (wpAny_pure hq)) fun _ _ e => e)
    show wpAny _ X.A (assign (.Name x px) X.env (.ref Dl)) _ _ _
    refine wpAny_assign_Name (store_ok2 I' hN hi hx (v := .ref Dl) rfl (fun s'' I'' ⟨a, sb, ha⟩ => ?_) hf)
    obtain ⟨f0, f1, f2, f3, f4, f5⟩ := fC
    have hac : C ≠ a := by
      rcases ha with rfl | ha
      · exact f1
      · exact fun z => f4 _ _ ha z.symm
    obtain ⟨oc, es, ep, ho, rest⟩ := hm
    refine ⟨m, ⟨oc, es, ep, (sb.2 C hac).trans ho, rest⟩, fun h'' sb2 => ?_⟩
    refine ⟨σ.set i (some (.ref Dl)), H', I''.turned (t' := s''.toks) (fun b o hb e => sb2.extBut b o hb e) f0 f1 f3 f4 f5, ?_⟩
    cases hr'
    exact hmk (Q := fun v H' => Dn.nx (σ.set i (some v)) H') e' hf0 G' hD r hn h4 fun H2 ι2 v e2 G2 r2 => p H2 ι2 e2 G2 _ ((S0.ext e2).set r2 i)
  · cases h3)
theorem ds_setcomp {i : Nat} {x : Str} {px spos : Pos} (hxe : X.xe = fun _ _ => False) (hc : X.calm = true) (ok : CompOk X N fr scope) (hit : DI X tg iter fi) (hin : ∀ C s3 H fp pins, DG (compCx X N scope C s3 H fp pins) tg t ∧ DIfs (compCx X N scope C s3 H fp pins) ifs c ∧ DE (compCx X N scope C s3 H fp pins) elt e)
    (hN : X.N.Nodup) (hi : X.N[i]? = some x) (hx : Loc X.env.scope x) (hsw : swapsWith (.ListComp elt [⟨tg, iter, ifs, 0⟩] scope pos) (some (.Name x px)) spos.line X.env = pure true := by rfl)
    (hs : ∀ x, foldedSetIterable iter X.env x = pure x := by intro _; rfl) (hf : X.fn x = true ∨ X.env.scope.names.lookup x = some .local := by first | exact .inl rfl | exact .inr rfl | assumption) :
    DS X (.Assign [.Name x px] (.ListComp elt [⟨tg, iter, ifs, 0⟩] scope pos) spos) (fAsg (fComp cLst fi fr t c e) (gN i)) :=
  (setcomp_core (fun e' _ G' hD r hn h4 p => comp_val e' G' hD r hn h4 p) hxe hc ok hit hin hN hi hx hsw hs hf)
end
end L3
namespace L3
open PySem PySem.Spec PyProof.Rows L2
def iOp (c : Int → Int → Bool) (f : Int → Int → Int) (d1 d2 : D) (g : G) : Option (D × G) := match d1, d2 with
  | .int i, .int j => if c i j = true then some (.int (f i j), g) else none
  | _, _ => none
def iCm (f : Int → Int → Bool) (d1 d2 : D) (g : G) : Option (D × G) := match d1, d2 with
  | .int i, .int j => some (.bl (f i j), g)
  | _, _ => none
def okAny (_ _ : Int) : Bool := true
def okMul (i j : Int) : Bool := Nat.ble i.natAbs 18446744073709551615 || Nat.ble j.natAbs 18446744073709551615
def okDiv (_ j : Int) : Bool := Nat.ble 1 j.toNat && Nat.ble j.toNat 1073741823
def okMod (_ j : Int) : Bool := Nat.ble 1 j.toNat
def okPow (i j : Int) : Bool := (match j with | .ofNat n => Nat.ble n 1000000 | .negSucc _ => false) && Nat.ble i.natAbs 18446744073709551615
section
variable {X : Cx}
theorem od_int {f : Value → Value → Sem Value} {C : Int → Int → Prop} {c : Int → Int → Bool} {fi : Int → Int → Int} (h : OpR X f (rI C fun i j => .int (fi i j))) (hc : ∀ i j, c i j = true → C i j) : OpR X f (rD2 X.K (iOp c fi)) := by
  intro pins s σ H x y v u Q I rx ry q
  obtain ⟨ι, g, d1, d2, d, g', G0, r1, r2, q, p⟩ := q
  cases d1 with
  | int i =>
    cases d2 with
    | int j =>
      simp only [Rel] at r1 r2; subst r1; subst r2
      simp only [iOp] at q
      split at q
      · rename_i z
        cases q
        exact h pins s σ H _ _ v u Q I rx ry ⟨i, j, rfl, rfl, hc i j z, p H ι _ Ext.refl G0 (by simp [Rel])⟩
      · cases q
    | _ => cases q
  | _ => cases q
theorem rI0_any {g : Int → Int → V} {x y : V} {H : Hp} {Q : VK} (h : rI (fun _ _ => True) g x y H Q) : rI0 g x y H Q := let ⟨i, j, a, b, _, q⟩ := h; ⟨i, j, a, b, q⟩
theorem OpR.imp {f : Value → Value → Sem Value} {r r' : R2} (h : OpR X f r) (i : ∀ x y H Q, r' x y H Q → r x y H Q) : OpR X f r' := fun pins s σ H x y v u Q I rx ry q => h pins s σ H x y v u Q I rx ry (i _ _ _ _ q)
theorem od_sub : OpR X (binaryOp .Sub) (rD2 X.K (iOp okAny (· - ·))) := od_int (OpR.imp op_sub fun _ _ _ _ => rI0_any) fun _ _ _ => trivial
theorem od_addI : OpR X (binaryOp .Add) (rD2 X.K (iOp okAny (· + ·))) := od_int (OpR.imp op_add fun _ _ _ _ => rI0_any) fun _ _ _ => trivial
theorem od_mulI : OpR X (binaryOp .Mult) (rD2 X.K (iOp okMul (· * ·))) := od_int op_mul fun i j h => by
  unfold okMul at h
  simp only [Bool.or_eq_true] at h
  rcases h with h | h
  · have := Nat.le_of_ble_eq_true h
    exact .inl ⟨by omega, by omega⟩
  · have := Nat.le_of_ble_eq_true h
    exact .inr ⟨by omega, by omega⟩
theorem od_fdiv : OpR X (binaryOp .FloorDiv) (rD2 X.K (iOp okDiv (· / ·))) := od_int op_fdiv fun i j h => by
  unfold okDiv at h
  simp only [Bool.and_eq_true] at h
  have h1 := Nat.le_of_ble_eq_true h.1
  have h2 := Nat.le_of_ble_eq_true h.2
  exact ⟨by omega, by omega⟩
theorem od_mod : OpR X (binaryOp .Mod) (rD2 X.K (iOp okMod (· % ·))) := od_int op_mod fun i j h => by
  have h1 := Nat.le_of_ble_eq_true (show Nat.ble 1 j.toNat = true from h)
  show 0 < j
  omega
theorem od_pow : OpR X (binaryOp .Pow) (rD2 X.K (iOp okPow (fun i j => i ^ j.toNat))) := od_int op_pow fun i j h => by
  unfold okPow at h
  simp only [Bool.and_eq_true] at h
  have h2 := Nat.le_of_ble_eq_true h.2
  cases j with
  | ofNat n =>
    have h1 := Nat.le_of_ble_eq_true (show Nat.ble n 1000000 = true from h.1)
    exact ⟨Int.natCast_nonneg n, (by show ((n : Nat) : Int) ≤ 1000000; omega), (by omega)⟩
  | negSucc n => exact absurd h.1 (by simp)
theorem od_cm {f : Value → Value → Sem Value} {fi : Int → Int → Bool} (h : OpR X f (rI0 fun i j => .bl (fi i j))) : OpR X f (rD2 X.K (iCm fi)) := by
  intro pins s σ H x y v u Q I rx ry q
  obtain ⟨ι, g, d1, d2, d, g', G0, r1, r2, q, p⟩ := q
  cases d1 with
  | int i =>
    cases d2 with
    | int j =>
      simp only [Rel] at r1 r2; subst r1; subst r2
      cases q
      exact h pins s σ H _ _ v u Q I rx ry ⟨i, j, rfl, rfl, p H ι _ Ext.refl G0 (by simp [Rel])⟩
    | _ => cases q
  | _ => cases q
theorem od_lt : OpR X (compareOp .Lt) (rD2 X.K (iCm fun i j => decide (i < j))) := od_cm op_lt
theorem od_le : OpR X (compareOp .LtE) (rD2 X.K (iCm fun i j => decide (i ≤ j))) := od_cm op_le
theorem od_gt : OpR X (compareOp .Gt) (rD2 X.K (iCm fun i j => decide (j < i))) := od_cm op_gt
theorem od_ge : OpR X (compareOp .GtE) (rD2 X.K (iCm fun i j => decide (j ≤ i))) := od_cm op_ge
def uNeg (d : D) (g : G) : Option (D × G) := match d with | .int i => some (.int (-i), g) | _ => none
theorem ud_neg : UnR X (unaryOp .USub) (rD1 X.K uNeg) := by
  intro pins s σ H x v Q I rx q
  obtain ⟨ι, g, d1, d, g', G0, r1, q, p⟩ := q
  cases d1 with
  | int i =>
    simp only [Rel] at r1; subst r1
    cases q
    exact un_neg pins s σ H _ v Q I rx ⟨i, rfl, p H ι _ Ext.refl G0 (by simp [Rel])⟩
  | _ => cases q
mutual
def flat : D → Bool
  | .ref _ => false
  | .edc => false
  | .tup xs => flats xs
  | .lst xs => flats xs
  | _ => true
def flats : List D → Bool
  | [] => true
  | d :: ds => flat d && flats ds
end
mutual
def eqD : D → D → Bool
  | .non, .non => true
  | .bl a, .bl b => a == b
  | .bl a, .int b => (if a then 1 else 0) == b
  | .int a, .bl b => a == (if b then 1 else 0)
  | .int a, .int b => a == b
  | .str a, .str b => a == b
  | .tup xs, .tup ys => eqDs xs ys
  | .lst xs, .lst ys => eqDs xs ys
  | _, _ => false
def eqDs : List D → List D → Bool
  | [], [] => true
  | x :: xs, y :: ys => eqD x y && eqDs xs ys
  | _, _ => false
end
mutual
def dep : D → Nat
  | .tup xs => deps xs + 1
  | .lst xs => deps xs + 1
  | _ => 0
def deps : List D → Nat
  | [] => 0
  | d :: ds => max (dep d) (deps ds)
end
mutual
theorem eqD_refl : ∀ d : D, flat d = true → eqD d d = true
  | .non, _ => by simp [eqD]
  | .bl _, _ => by simp [eqD]
  | .int _, _ => by simp [eqD]
  | .str _, _ => by simp [eqD]
  | .tup xs, h => by simp only [eqD]; exact eqDs_refl xs h
  | .lst xs, h => by simp only [eqD]; exact eqDs_refl xs h
theorem eqDs_refl : ∀ ds : List D, flats ds = true → eqDs ds ds = true
  | [], _ => by simp [eqDs]
  | d :: ds, h => by
    simp only [flats, Bool.and_eq_true] at h
    simp only [eqDs, Bool.and_eq_true]
    exact ⟨eqD_refl d h.1, eqDs_refl ds h.2⟩
end
theorem eqDs_all : ∀ xs ys : List D, eqDs xs ys = ((List.range (min xs.length ys.length)).all (fun j => eqD (xs[j]?.getD .non) (ys[j]?.getD .non)) && xs.length == ys.length)
  | [], [] => by simp [eqDs]
  | [], y :: ys => by simp [eqDs]
  | x :: xs, [] => by simp [eqDs]
  | x :: xs, y :: ys => by
    simp only [eqDs, eqDs_all xs ys, List.length_cons, Nat.succ_min_succ, List.range_succ_eq_map, List.all_cons, List.getElem?_cons_zero, Option.getD_some, List.all_map, Function.comp_def, List.getElem?_cons_succ]
    rw [Bool.and_assoc]
    congr 2
    simp
theorem tup_lst {pins : List (Addr × Obj)} {σ : L2.St} {H : Hp} {s : Shared} {a : Addr} {xs ys : List V} (I : Inv X pins σ H s) (h : SqT X.K H a xs) (h' : SqL X.K H a ys) : False := by
  obtain ⟨its, _, ht, _⟩ := I.tuple h
  obtain ⟨its', _, hl, _⟩ := I.list h'
  exact SeqAt.ne_of_list_tuple hl.isList ht rfl
mutual
theorem Rel.inj {pins : List (Addr × Obj)} {σ : L2.St} {H : Hp} {s : Shared} {ι : Ix} (I : Inv X pins σ H s) : ∀ (d1 d2 : D) {v : V}, flat d1 = true → flat d2 = true → Rel X.K H ι d1 v → Rel X.K H ι d2 v → d1 = d2
  | .non, d2, v, _, f2, r1, r2 => by
    simp only [Rel] at r1; subst r1
    cases d2 <;> simp_all [Rel, flat]
  | .bl _, d2, v, _, f2, r1, r2 => by
    simp only [Rel] at r1; subst r1
    cases d2 <;> simp_all [Rel, flat]
  | .int _, d2, v, _, f2, r1, r2 => by
    simp only [Rel] at r1; subst r1
    cases d2 <;> simp_all [Rel, flat]
  | .str _, d2, v, _, f2, r1, r2 => by
    simp only [Rel] at r1; subst r1
    cases d2 <;> simp_all [Rel, flat]
  | .tup xs, d2, v, f1, f2, r1, r2 => by
    simp only [Rel] at r1
    obtain ⟨a, vs, rfl, hq, hr⟩ := r1
    cases d2 with
    | tup ys =>
      simp only [Rel] at r2
      obtain ⟨a', ws, e, hq', hr'⟩ := r2
      cases e
      have := I.tuple_inj hq.sq hq'.sq
      subst this
      rw [RelL.inj I xs ys f1 f2 hr hr']
    | lst ys =>
      simp only [Rel] at r2
      obtain ⟨a', ws, e, hq', hr'⟩ := r2
      cases e
      exact (tup_lst I hq.sq hq'.sq).elim
    | edc => cases f2
    | ref n => cases f2
    | _ => simp [Rel] at r2
  | .lst xs, d2, v, f1, f2, r1, r2 => by
    simp only [Rel] at r1
    obtain ⟨a, vs, rfl, hq, hr⟩ := r1
    cases d2 with
    | lst ys =>
      simp only [Rel] at r2
      obtain ⟨a', ws, e, hq', hr'⟩ := r2
      cases e
      have := I.list_inj hq.sq hq'.sq
      subst this
      rw [RelL.inj I xs ys f1 f2 hr hr']
    | tup ys =>
      simp only [Rel] at r2
      obtain ⟨a', ws, e, hq', hr'⟩ := r2
      cases e
      exact (tup_lst I hq'.sq hq.sq).elim
    | edc => cases f2
    | ref n => cases f2
    | _ => simp [Rel] at r2
  | .edc, d2, v, f1, _, _, _ => by cases f1
  | .ref _, d2, v, f1, _, _, _ => by cases f1
theorem RelL.inj {pins : List (Addr × Obj)} {σ : L2.St} {H : Hp} {s : Shared} {ι : Ix} (I : Inv X pins σ H s) : ∀ (ds es : List D) {vs : List V}, flats ds = true → flats es = true → RelL X.K H ι ds vs → RelL X.K H ι es vs → ds = es
  | [], es, vs, _, _, r1, r2 => by
    simp only [RelL] at r1; subst r1
    cases es with
    | nil => rfl
    | cons e es => simp [RelL] at r2
  | d :: ds, es, vs, f1, f2, r1, r2 => by
    simp only [RelL] at r1
    obtain ⟨v, vr, rfl, hv, hr⟩ := r1
    cases es with
    | nil => simp [RelL] at r2
    | cons e es =>
      simp only [RelL] at r2
      obtain ⟨v', vr', e1, hv', hr'⟩ := r2
      cases e1
      simp only [flats, Bool.and_eq_true] at f1 f2
      rw [Rel.inj I d e f1.1 f2.1 hv hv', RelL.inj I ds es f1.2 f2.2 hr hr']
end
theorem Rel.nofloat {K H ι d v b t} (r : Rel K H ι d v) (rv : RelV v (.float b t)) : False := by
  cases d with
  | non => simp only [Rel] at r; subst r; cases rv
  | bl _ => simp only [Rel] at r; subst r; cases rv
  | int _ => simp only [Rel] at r; subst r; obtain ⟨t, e⟩ := rv; cases e
  | str _ => simp only [Rel] at r; subst r; obtain ⟨t, e⟩ := rv; cases e
  | tup _ => simp only [Rel] at r; obtain ⟨a, vs, rfl, _⟩ := r; cases rv
  | lst _ => simp only [Rel] at r; obtain ⟨a, vs, rfl, _⟩ := r; cases rv
  | edc => simp only [Rel] at r; obtain ⟨a, rfl, _⟩ := r; cases rv
  | ref _ => simp only [Rel] at r; obtain ⟨a, rfl, _⟩ := r; cases rv
theorem in1_units (A : Around) : A.in1.units = A.units + 1 := rfl
section
open SeqAt
variable {pins : List (Addr × Obj)} {σ : L2.St} {H : Hp} {s : Shared} {ι : Ix}
theorem eqAt_of_rc {A : Around} {s : Shared} {u v : Value} {k : Bool} (h : RcAt A s u v k) (hs : u = v → k = true) (hnf : ∀ b t, u ≠ .float b t) : EqAt A s u v k := fun prog w E Q hq => by
  unfold eqBool
  refine wpAny_holding ?_
  refine wpAny_ite_split (fun hab => ?_) (fun _ => ?_)
  · rw [hs (eq_of_beq hab)] at hq
    exact wpAny_bind (wpAny_rule (wpAny_pure hq))
  · cases u with
    | float b t => exact absurd rfl (hnf b t)
    | _ => exact wpAny_bind (h prog w E _ (wpAny_truthy_bool hq))
mutual
theorem rcAt_D (I : Inv X pins σ H s) : ∀ (d1 d2 : D) {A : Around} {x y : V} {u v : Value}, flat d1 = true → flat d2 = true → Rel X.K H ι d1 x → Rel X.K H ι d2 y → RelV x u → RelV y v → A.units + dep d1 < cLine → RcAt A s u v (eqD d1 d2)
  | .non, d2, A, x, y, u, v, _, f2, r1, r2, ru, rv, hu => by
    simp only [Rel] at r1; subst r1; cases ru
    cases d2 with
    | non => simp only [Rel] at r2; subst r2; cases rv; simp only [eqD]; exact .none_none
    | bl b => simp only [Rel] at r2; subst r2; cases rv; simp only [eqD]; exact .none_bool b
    | int b => simp only [Rel] at r2; subst r2; obtain ⟨t, rfl⟩ := rv; simp only [eqD]; exact .none_int b t
    | str b => simp only [Rel] at r2; subst r2; obtain ⟨t, rfl⟩ := rv; simp only [eqD]; exact .none_str b t
    | tup ys => simp only [Rel] at r2; obtain ⟨a', ws, rfl, hq, hr⟩ := r2; cases rv; obtain ⟨its, _, ht, _⟩ := I.tuple hq.sq; simp only [eqD]; exact .none_tuple ht (by omega)
    | lst ys => simp only [Rel] at r2; obtain ⟨a', ws, rfl, hq, hr⟩ := r2; cases rv; obtain ⟨its, _, ht, _⟩ := I.list hq.sq; simp only [eqD]; exact .none_list ht.isList (by omega)
    | _ => cases f2
  | .bl a, d2, A, x, y, u, v, _, f2, r1, r2, ru, rv, hu => by
    simp only [Rel] at r1; subst r1; cases ru
    cases d2 with
    | non => simp only [Rel] at r2; subst r2; cases rv; simp only [eqD]; exact .bool_none a
    | bl b => simp only [Rel] at r2; subst r2; cases rv; simp only [eqD]; exact .bool_bool a b
    | int b => simp only [Rel] at r2; subst r2; obtain ⟨t, rfl⟩ := rv; simp only [eqD]; exact .bool_int a b t
    | str b => simp only [Rel] at r2; subst r2; obtain ⟨t, rfl⟩ := rv; simp only [eqD]; exact .bool_str a b t
    | tup ys => simp only [Rel] at r2; obtain ⟨a', ws, rfl, hq, hr⟩ := r2; cases rv; obtain ⟨its, _, ht, _⟩ := I.tuple hq.sq; simp only [eqD]; exact .bool_tuple a ht (by omega)
    | lst ys => simp only [Rel] at r2; obtain ⟨a', ws, rfl, hq, hr⟩ := r2; cases rv; obtain ⟨its, _, ht, _⟩ := I.list hq.sq; simp only [eqD]; exact .bool_list a ht.isList (by omega)
    | _ => cases f2
  | .int a, d2, A, x, y, u, v, _, f2, r1, r2, ru, rv, hu => by
    simp only [Rel] at r1; subst r1; obtain ⟨t0, rfl⟩ := ru
    cases d2 with
    | non => simp only [Rel] at r2; subst r2; cases rv; simp only [eqD]; exact .int_none a t0
    | bl b => simp only [Rel] at r2; subst r2; cases rv; simp only [eqD]; exact .int_bool a t0 b
    | int b => simp only [Rel] at r2; subst r2; obtain ⟨t, rfl⟩ := rv; simp only [eqD]; exact .int_int a t0 b t
    | str b => simp only [Rel] at r2; subst r2; obtain ⟨t, rfl⟩ := rv; simp only [eqD]; exact .int_str a t0 b t
    | tup ys => simp only [Rel] at r2; obtain ⟨a', ws, rfl, hq, hr⟩ := r2; cases rv; obtain ⟨its, _, ht, _⟩ := I.tuple hq.sq; simp only [eqD]; exact .int_tuple a t0 ht (by omega)
    | lst ys => simp only [Rel] at r2; obtain ⟨a', ws, rfl, hq, hr⟩ := r2; cases rv; obtain ⟨its, _, ht, _⟩ := I.list hq.sq; simp only [eqD]; exact .int_list a t0 ht.isList (by omega)
    | _ => cases f2
  | .str a, d2, A, x, y, u, v, _, f2, r1, r2, ru, rv, hu => by
    simp only [Rel] at r1; subst r1; obtain ⟨t0, rfl⟩ := ru
    cases d2 with
    | non => simp only [Rel] at r2; subst r2; cases rv; simp only [eqD]; exact .str_none a t0
    | bl b => simp only [Rel] at r2; subst r2; cases rv; simp only [eqD]; exact .str_bool a t0 b
    | int b => simp only [Rel] at r2; subst r2; obtain ⟨t, rfl⟩ := rv; simp only [eqD]; exact .str_int a t0 b t
    | str b => simp only [Rel] at r2; subst r2; obtain ⟨t, rfl⟩ := rv; simp only [eqD]; exact .str_str a t0 b t
    | tup ys => simp only [Rel] at r2; obtain ⟨a', ws, rfl, hq, hr⟩ := r2; cases rv; obtain ⟨its, _, ht, _⟩ := I.tuple hq.sq; simp only [eqD]; exact .str_tuple a t0 ht (by omega)
    | lst ys => simp only [Rel] at r2; obtain ⟨a', ws, rfl, hq, hr⟩ := r2; cases rv; obtain ⟨its, _, ht, _⟩ := I.list hq.sq; simp only [eqD]; exact .str_list a t0 ht.isList (by omega)
    | _ => cases f2
  | .tup xs, d2, A, x, y, u, v, f1, f2, r1, r2, ru, rv, hu => by
    simp only [Rel] at r1; obtain ⟨a, vs, rfl, hq, hr⟩ := r1; cases ru
    obtain ⟨its, rits, ht, _⟩ := I.tuple hq.sq
    simp only [dep] at hu
    cases d2 with
    | non => simp only [Rel] at r2; subst r2; cases rv; simp only [eqD]; exact .tuple_none ht (by omega)
    | bl b => simp only [Rel] at r2; subst r2; cases rv; simp only [eqD]; exact .tuple_bool b ht (by omega)
    | int b => simp only [Rel] at r2; subst r2; obtain ⟨t, rfl⟩ := rv; simp only [eqD]; exact .tuple_int b t ht (by omega)
    | str b => simp only [Rel] at r2; subst r2; obtain ⟨t, rfl⟩ := rv; simp only [eqD]; exact .tuple_str b t ht (by omega)
    | tup ys =>
      simp only [Rel] at r2; obtain ⟨a', ws, rfl, hq', hr'⟩ := r2; cases rv
      obtain ⟨its', rits', ht', _⟩ := I.tuple hq'.sq
      simp only [eqD, eqDs_all]
      have l1 : xs.length = its.toArray.size := by rw [List.size_toArray, ← rits.length]; exact hr.length
      have l2 : ys.length = its'.toArray.size := by rw [List.size_toArray, ← rits'.length]; exact hr'.length
      rw [l1, l2]
      refine .tuples ht ht' (by omega) fun j h1 h2 => ?_
      have := eqAts_D I xs ys (A := A.in1) f1 f2 hr hr' rits rits' (by rw [in1_units]; omega) j (by simpa using h1) (by simpa using h2)
      simpa using this
    | lst ys =>
      simp only [Rel] at r2; obtain ⟨a', ws, rfl, hq', hr'⟩ := r2; cases rv
      obtain ⟨its', rits', ht', _⟩ := I.list hq'.sq
      simp only [eqD]; exact .tuple_list ht ht'.isList (by omega)
    | _ => cases f2
  | .lst xs, d2, A, x, y, u, v, f1, f2, r1, r2, ru, rv, hu => by
    simp only [Rel] at r1; obtain ⟨a, vs, rfl, hq, hr⟩ := r1; cases ru
    obtain ⟨its, rits, ht, _⟩ := I.list hq.sq
    simp only [dep] at hu
    cases d2 with
    | non => simp only [Rel] at r2; subst r2; cases rv; simp only [eqD]; exact .list_none ht.isList (by omega)
    | bl b => simp only [Rel] at r2; subst r2; cases rv; simp only [eqD]; exact .list_bool b ht.isList (by omega)
    | int b => simp only [Rel] at r2; subst r2; obtain ⟨t, rfl⟩ := rv; simp only [eqD]; exact .list_int b t ht.isList (by omega)
    | str b => simp only [Rel] at r2; subst r2; obtain ⟨t, rfl⟩ := rv; simp only [eqD]; exact .list_str b t ht.isList (by omega)
    | lst ys =>
      simp only [Rel] at r2; obtain ⟨a', ws, rfl, hq', hr'⟩ := r2; cases rv
      obtain ⟨its', rits', ht', _⟩ := I.list hq'.sq
      simp only [eqD, eqDs_all]
      have l1 : xs.length = its.toArray.size := by rw [List.size_toArray, ← rits.length]; exact hr.length
      have l2 : ys.length = its'.toArray.size := by rw [List.size_toArray, ← rits'.length]; exact hr'.length
      rw [l1, l2]
      by_cases hs : its.toArray.size = its'.toArray.size
      · have e0 : (its.toArray.size == its'.toArray.size) = true := by simpa using hs
        rw [e0, Bool.and_true, ← hs, Nat.min_self]
        refine .lists ht.isList ht'.isList hs (by omega) fun j h1 h2 => ?_
        have := eqAts_D I xs ys (A := A.in1) f1 f2 hr hr' rits rits' (by rw [in1_units]; omega) j (by simpa using h1) (by simpa using h2)
        simpa using this
      · have e0 : (its.toArray.size == its'.toArray.size) = false := by simpa using hs
        rw [e0, Bool.and_false]
        exact .lists_lengths ht.isList ht'.isList (by simpa using hs) (by omega)
    | tup ys =>
      simp only [Rel] at r2; obtain ⟨a', ws, rfl, hq', hr'⟩ := r2; cases rv
      obtain ⟨its', rits', ht', _⟩ := I.tuple hq'.sq
      simp only [eqD]; exact .list_tuple ht.isList ht' (by omega)
    | _ => cases f2
  | .edc, d2, A, x, y, u, v, f1, _, _, _, _, _, _ => by cases f1
  | .ref _, d2, A, x, y, u, v, f1, _, _, _, _, _, _ => by cases f1
theorem eqAts_D (I : Inv X pins σ H s) : ∀ (xs ys : List D) {A : Around} {vs ws : List V} {us zs : List Value}, flats xs = true → flats ys = true → RelL X.K H ι xs vs → RelL X.K H ι ys ws → Vals vs us → Vals ws zs → A.units + deps xs < cLine →
    ∀ (j : Nat) (h1 : j < us.length) (h2 : j < zs.length), EqAt A s us[j] zs[j] (eqD (xs[j]?.getD .non) (ys[j]?.getD .non))
  | [], ys, A, vs, ws, us, zs, _, _, r1, _, ru, _, _, j, h1, _ => by
    simp only [RelL] at r1; subst r1; cases ru; simp at h1
  | d :: ds, ys, A, vs, ws, us, zs, f1, f2, r1, r2, ru, rz, hu, j, h1, h2 => by
    simp only [RelL] at r1
    obtain ⟨v, vr, rfl, hv, hr⟩ := r1
    simp only [deps] at hu
    simp only [flats, Bool.and_eq_true] at f1
    cases ru with
    | cons ru0 rur =>
      cases ys with
      | nil => simp only [RelL] at r2; subst r2; cases rz; simp at h2
      | cons e es =>
        simp only [RelL] at r2
        obtain ⟨w, wr, rfl, hw, hwr⟩ := r2
        simp only [flats, Bool.and_eq_true] at f2
        cases rz with
        | cons rz0 rzr =>
          cases j with
          | zero =>
            have rc := rcAt_D I d e (A := A) f1.1 f2.1 hv hw ru0 rz0 (by omega)
            simp only [List.getElem_cons_zero, List.getElem?_cons_zero, Option.getD_some]
            refine eqAt_of_rc rc (fun euv => ?_) (fun b t ef => Rel.nofloat hv (by rw [ef] at ru0; exact ru0))
            subst euv
            have exy := ru0.inj rz0
            subst exy
            have ede := Rel.inj I d e f1.1 f2.1 hv hw
            subst ede
            exact eqD_refl d f1.1
          | succ j =>
            have := eqAts_D I ds es (A := A) f1.2 f2.2 hr hwr rur rzr (by omega) j (by simpa using h1) (by simpa using h2)
            simpa using this
end
end
def oEq (d1 d2 : D) (g : G) : Option (D × G) := if (flat d1 && flat d2 && decide (dep d1 ≤ 60)) = true then some (.bl (eqD d1 d2), g) else none
theorem od_eq (hu : X.A.units + 64 < cLine) : OpR X (compareOp .Eq) (rD2 X.K oEq) := by
  intro pins s σ H x y v u Q I rx ry q
  obtain ⟨ι, g, d1, d2, d, g', G0, r1, r2, q, p⟩ := q
  unfold oEq at q
  split at q
  · rename_i z
    simp only [Bool.and_eq_true, decide_eq_true_eq] at z
    cases q
    exact rcAt_D I d1 d2 z.1.1 z.1.2 r1 r2 rx ry (by omega) _ _ _ _ ⟨.bl _, H, I, rfl, p H ι _ Ext.refl G0 (by simp [Rel])⟩
  · cases q
def isNon : D → Bool
  | .non => true
  | _ => false
def oIsN (d1 d2 : D) (g : G) : Option (D × G) := match d2 with | .non => some (.bl (isNon d1), g) | _ => none
def oNotN (d1 d2 : D) (g : G) : Option (D × G) := match d2 with | .non => some (.bl (!isNon d1), g) | _ => none
theorem rel_non {K H ι d v} (r : Rel K H ι d v) : decide (v = V.non) = isNon d := by
  cases d with
  | non => simp only [Rel] at r; subst r; rfl
  | bl _ => simp only [Rel] at r; subst r; rfl
  | int _ => simp only [Rel] at r; subst r; rfl
  | str _ => simp only [Rel] at r; subst r; rfl
  | tup _ => simp only [Rel] at r; obtain ⟨a, vs, rfl, _⟩ := r; rfl
  | lst _ => simp only [Rel] at r; obtain ⟨a, vs, rfl, _⟩ := r; rfl
  | edc => simp only [Rel] at r; obtain ⟨a, rfl, _⟩ := r; rfl
  | ref _ => simp only [Rel] at r; obtain ⟨a, rfl, _⟩ := r; rfl
theorem od_isN : OpR X (compareOp .Is) (rD2 X.K oIsN) := by
  intro pins s σ H x y v u Q I rx ry q
  obtain ⟨ι, g, d1, d2, d, g', G0, r1, r2, q, p⟩ := q
  cases d2 with
  | non =>
    simp only [Rel] at r2; subst r2
    simp only [oIsN] at q
    cases q
    exact op_isN pins s σ H _ _ v u Q I rx ry ⟨rfl, by rw [rel_non r1]; exact p H ι _ Ext.refl G0 (by simp [Rel])⟩
  | _ => cases q
theorem od_notN : OpR X (compareOp .IsNot) (rD2 X.K oNotN) := by
  intro pins s σ H x y v u Q I rx ry q
  obtain ⟨ι, g, d1, d2, d, g', G0, r1, r2, q, p⟩ := q
  cases d2 with
  | non =>
    simp only [Rel] at r2; subst r2
    simp only [oNotN] at q
    cases q
    refine op_notN pins s σ H _ _ v u Q I rx ry ⟨rfl, ?_⟩
    rw [rel_non r1]
    exact p H ι _ Ext.refl G0 (by simp [Rel])
  | _ => cases q
def seqOf (d : D) (g : G) : Option (List D) := match d with
  | .tup xs => some xs
  | .lst xs => some xs
  | .ref n => g[n]?
  | _ => none
theorem seqOf_rel {K H ι g d v xs} (G0 : RelG K H ι g) (r : Rel K H ι d v) (h : seqOf d g = some xs) : ∃ a vs, v = .ref a ∧ (SqL K H a vs ∨ SqT K H a vs) ∧ RelL K H ι xs vs := by
  cases d with
  | tup ys => cases h; simp only [Rel] at r; obtain ⟨a, vs, rfl, hq, hr⟩ := r; exact ⟨a, vs, rfl, .inr hq.sq, hr⟩
  | lst ys => cases h; simp only [Rel] at r; obtain ⟨a, vs, rfl, hq, hr⟩ := r; exact ⟨a, vs, rfl, .inl hq.sq, hr⟩
  | ref n =>
    simp only [Rel] at r; obtain ⟨a, rfl, ha⟩ := r
    obtain ⟨vs, h1, h2⟩ := G0.at h ha
    exact ⟨a, vs, rfl, .inl (.of h1), h2⟩
  | _ => cases h
def oIx (d1 d2 : D) (g : G) : Option (D × G) := match d2 with
  | .int i => (seqOf d1 g).bind fun xs => (atI xs i).map fun d => (d, g)
  | _ => none
theorem atI_rel {K H ι} {xs : List D} {vs : List V} {i : Int} {d : D} (r : RelL K H ι xs vs) (h : atI xs i = some d) : ∃ v, atI vs i = some v ∧ Rel K H ι d v := by
  unfold atI at h ⊢
  rw [← r.length]
  obtain ⟨j, h1, h2⟩ := bind_some h
  obtain ⟨v, h3, h4⟩ := r.get h2
  exact ⟨v, by rw [h1]; exact h3, h4⟩
theorem ixd_seq : IxR X (rD2 X.K oIx) := by
  intro value slice pins s σ H x y v u Q I rx ry q hs
  obtain ⟨ι, g, d1, d2, d, g', G0, r1, r2, q, p⟩ := q
  cases d2 with
  | int i =>
    simp only [Rel] at r2; subst r2
    simp only [oIx] at q
    obtain ⟨xs, h1, q⟩ := bind_some q
    cases h2 : atI xs i with
    | none => rw [h2] at q; cases q
    | some e =>
      rw [h2] at q; cases q
      obtain ⟨a, vs, rfl, hq, hr⟩ := seqOf_rel G0 r1 h1
      obtain ⟨w, h3, h4⟩ := atI_rel hr h2
      have fin := p H ι w Ext.refl G0 h4
      rcases hq with hq | hq
      · exact ix_seq value slice pins s σ H _ _ v u Q I rx ry (.inl ⟨a, vs, i, w, rfl, rfl, hq, h3, fin⟩) hs
      · exact ix_seq value slice pins s σ H _ _ v u Q I rx ry (.inr (.inl ⟨a, vs, i, w, rfl, rfl, hq, h3, fin⟩)) hs
  | _ => cases q
theorem de_ix {a b : Expr} {fa fb : FE} {pos : Pos} (ha : DE X a fa) (hb : DE X b fb) (hs : PlainIx b := by exact fun _ _ => rfl) : DE X (.Subscript a b pos) (fOp oIx fa fb) := .of (
  PE.imp (pe_ix ixd_seq ha.un hb.un hs) fun σ H Q h => tOp_of h)
def bLen (ds : List D) (g : G) : Option (D × G) := match ds with | [d] => (seqOf d g).map fun xs => (.int xs.length, g) | _ => none
theorem cd_len : CallR X (.builtin "len") (rDL X.K bLen) := by
  intro pins s σ H xs us Q I r q
  obtain ⟨ι, g, ds, d, g', G0, r1, q, p⟩ := q
  cases ds with
  | nil => cases q
  | cons e dsr =>
  cases dsr with
  | cons _ _ => cases q
  | nil =>
    simp only [bLen] at q
    cases hx : seqOf e g with
    | none => rw [hx] at q; cases q
    | some ys =>
      rw [hx] at q; cases q
      simp only [RelL] at r1
      obtain ⟨v, _, rfl, rv, rfl⟩ := r1
      obtain ⟨a, vs, rfl, hq, hr⟩ := seqOf_rel G0 rv hx
      exact call_len_seq pins s σ H _ us Q I r ⟨a, vs, rfl, hq, by rw [← hr.length]; exact p H ι _ Ext.refl G0 (by simp [Rel])⟩
def bMax (ds : List D) (g : G) : Option (D × G) := match ds with | [.int i, .int j] => some (.int (if j > i then j else i), g) | _ => none
def bMin (ds : List D) (g : G) : Option (D × G) := match ds with | [.int i, .int j] => some (.int (if j < i then j else i), g) | _ => none
theorem cd_max (hc : X.calm = true) : CallR X (.builtin "max") (rDL X.K bMax) := by
  intro pins s σ H xs us Q I r q
  obtain ⟨ι, g, ds, d, g', G0, r1, q, p⟩ := q
  unfold bMax at q
  split at q
  · cases q
    simp only [RelL, Rel] at r1
    obtain ⟨_, _, rfl, rfl, _, _, rfl, rfl, rfl⟩ := r1
    exact call_max2 hc pins s σ H _ us Q I r ⟨_, _, rfl, p H ι _ Ext.refl G0 (by simp [Rel])⟩
  · cases q
theorem cd_min (hc : X.calm = true) : CallR X (.builtin "min") (rDL X.K bMin) := by
  intro pins s σ H xs us Q I r q
  obtain ⟨ι, g, ds, d, g', G0, r1, q, p⟩ := q
  unfold bMin at q
  split at q
  · cases q
    simp only [RelL, Rel] at r1
    obtain ⟨_, _, rfl, rfl, _, _, rfl, rfl, rfl⟩ := r1
    exact call_min2 hc pins s σ H _ us Q I r ⟨_, _, rfl, p H ι _ Ext.refl G0 (by simp [Rel])⟩
  · cases q
def bInt (ds : List D) (g : G) : Option (D × G) := match ds with | [.int i] => some (.int i, g) | [.bl k] => some (.int (if k then 1 else 0), g) | _ => none
theorem cd_int : CallR X (.type "int") (rDL X.K bInt) := by
  intro pins s σ H xs us Q I r q
  obtain ⟨ι, g, ds, d, g', G0, r1, q, p⟩ := q
  unfold bInt at q
  split at q
  · cases q
    simp only [RelL, Rel] at r1
    obtain ⟨_, _, rfl, rfl, rfl⟩ := r1
    exact call_int1 pins s σ H _ us Q I r (.inl ⟨_, rfl, p H ι _ Ext.refl G0 (by simp [Rel])⟩)
  · cases q
    simp only [RelL, Rel] at r1
    obtain ⟨_, _, rfl, rfl, rfl⟩ := r1
    exact call_int1 pins s σ H _ us Q I r (.inr ⟨_, rfl, p H ι _ Ext.refl G0 (by simp [Rel])⟩)
  · cases q
def bTup (ds : List D) (g : G) : Option (D × G) := match ds with | [d] => (seqOf d g).bind fun xs => if szOk xs.length = true then some (.tup xs, g) else none | _ => none
def bLst (ds : List D) (g : G) : Option (D × G) := match ds with | [d] => (seqOf d g).bind fun xs => if szOk xs.length = true then some (.lst xs, g) else none | _ => none
theorem cd_tup : CallR X (.type "tuple") (rDL X.K bTup) := by
  intro pins s σ H xs us Q I r q
  obtain ⟨ι, g, ds, d, g', G0, r1, q, p⟩ := q
  cases ds with
  | nil => cases q
  | cons e dsr =>
  cases dsr with
  | cons _ _ => cases q
  | nil =>
    simp only [bTup] at q
    obtain ⟨ys, hx, q⟩ := bind_some q
    split at q
    · rename_i z
      cases q
      simp only [RelL] at r1
      obtain ⟨v, _, rfl, rv, rfl⟩ := r1
      cases e with
      | tup zs =>
        cases hx
        simp only [Rel] at rv
        obtain ⟨a, vs, rfl, hq, hr⟩ := rv
        exact call_tuple_of pins s σ H _ us Q I r ⟨a, vs, rfl, .inr ⟨hq.sq, p H ι _ Ext.refl G0 (by simp only [Rel]; exact ⟨a, vs, rfl, hq, hr⟩)⟩⟩
      | _ =>
        obtain ⟨a, vs, rfl, hq, hr⟩ := seqOf_rel G0 rv hx
        have hql : SqL X.K H a vs := by
          rcases hq with hq | hq
          · exact hq
          · exfalso
            first
              | (cases hx; done)
              | (simp only [Rel] at rv; obtain ⟨a', vs', e1, hq', _⟩ := rv; cases e1; exact tup_lst I hq hq'.sq)
              | (simp only [Rel] at rv; obtain ⟨a', e1, ha⟩ := rv; cases e1; obtain ⟨ws, h1, h2⟩ := G0.at hx ha; exact tup_lst I hq (.of h1))
        refine call_tuple_of pins s σ H _ us Q I r ⟨a, vs, rfl, .inl ⟨hql, fun l hl => p _ _ _ (Ext.lay hl) (G0.lay hl) ?_⟩⟩
        simp only [Rel]
        exact ⟨l, vs, rfl, .inl ⟨.inl upd_same, G0.fresh hl⟩, RelL.ext (Ext.lay hl) _ hr⟩
    · cases q
theorem cd_lst : CallR X (.type "list") (rDL X.K bLst) := by
  intro pins s σ H xs us Q I r q
  obtain ⟨ι, g, ds, d, g', G0, r1, q, p⟩ := q
  cases ds with
  | nil => cases q
  | cons e dsr =>
  cases dsr with
  | cons _ _ => cases q
  | nil =>
    simp only [bLst] at q
    obtain ⟨ys, hx, q⟩ := bind_some q
    split at q
    · rename_i z
      cases q
      simp only [RelL] at r1
      obtain ⟨v, _, rfl, rv, rfl⟩ := r1
      obtain ⟨a, vs, rfl, hq, hr⟩ := seqOf_rel G0 rv hx
      refine call_list_of pins s σ H _ us Q I r ⟨a, vs, rfl, hq, fun l hl => p _ _ _ (Ext.lay hl) (G0.lay hl) ?_⟩
      simp only [Rel]
      exact ⟨l, vs, rfl, .inl ⟨.inl upd_same, G0.fresh hl, G0.freshH hl⟩, RelL.ext (Ext.lay hl) _ hr⟩
    · cases q
end
end L3
namespace L3
open PySem PySem.Spec PyProof.Rows L2
section
variable {X : Cx}
inductive Ty | int | bool | str | tuple | list | dict
def Ty.name : Ty → String
  | .int => "int" | .bool => "bool" | .str => "str" | .tuple => "tuple" | .list => "list" | .dict => "dict"
def isI : Ty → D → Bool
  | .int, .int _ => true | .int, .bl _ => true | .bool, .bl _ => true | .str, .str _ => true
  | .tuple, .tup _ => true | .list, .lst _ => true | .list, .ref _ => true | .dict, .edc => true
  | _, _ => false
def fIsi (T : Ty) (f : FE) : FE := fun σ g => (f σ g).bind fun r => some (.bl (isI T r.1), r.2)
theorem isi_call {pins : List (Addr × Obj)} {s : Shared} {σ : L2.St} {H : Hp} {ι : Ix} {g : G} {d : D} {x : V} {u : Value} {Q : Value → Shared → Prop} (T : Ty) (I : Inv X pins σ H s) (G0 : RelG X.K H ι g) (r : Rel X.K H ι d x) (ru : RelV x u) (h : ∀ tk, Q (.bool (isI T d)) { s with toks := tk }) :
    wpAny (model X.prog X.w) X.A (call (.builtin "isinstance") [u, .type T.name]) Q X.xe s := by
  cases d with
  | non => simp only [Rel] at r; subst r; cases ru; exact PySem.W.kia_one PySem.W.kitx_none I.kIn True.intro (b := isI T .non) (by cases T <;> rfl) (fun z => nomatch z) h
  | bl b => simp only [Rel] at r; subst r; cases ru; exact PySem.W.kia_one PySem.W.kitx_bool I.kIn True.intro (b := isI T (.bl b)) (by cases T <;> rfl) (fun z => nomatch z) h
  | int b => simp only [Rel] at r; subst r; obtain ⟨t, rfl⟩ := ru; exact PySem.W.kia_one PySem.W.kitx_int I.kIn True.intro (b := isI T (.int b)) (by cases T <;> rfl) (fun z => nomatch z) h
  | str b => simp only [Rel] at r; subst r; obtain ⟨t, rfl⟩ := ru; exact PySem.W.kia_one PySem.W.kitx_str I.kIn True.intro (b := isI T (.str b)) (by cases T <;> rfl) (fun z => nomatch z) h
  | tup xs =>
    simp only [Rel] at r; obtain ⟨a, vs, rfl, hq, hr⟩ := r; cases ru
    obtain ⟨its, _, ⟨o, h1, h2, _⟩, _⟩ := I.tuple hq.sq
    exact PySem.W.kia_one PySem.W.kitx_tuple I.kIn ⟨o, h1, h2⟩ (b := isI T (.tup xs)) (by cases T <;> rfl) (fun z => nomatch z) h
  | lst xs =>
    simp only [Rel] at r; obtain ⟨a, vs, rfl, hq, hr⟩ := r; cases ru
    obtain ⟨its, _, ⟨o, n, h1, h2, _⟩, _⟩ := I.list hq.sq
    exact PySem.W.kia_one PySem.W.kitx_list I.kIn ⟨o, h1, h2⟩ (b := isI T (.lst xs)) (by cases T <;> rfl) (fun z => nomatch z) h
  | ref n =>
    simp only [Rel] at r; obtain ⟨a, rfl, ha⟩ := r; cases ru
    have hi : n < g.length := by rw [← G0.len]; exact (List.getElem?_eq_some_iff.mp ha).1
    obtain ⟨vs, h1, h2⟩ := G0.at (List.getElem?_eq_getElem hi) ha
    obtain ⟨its, _, ⟨o, n, h1, h2, _⟩, _⟩ := I.list (SqL.of h1)
    exact PySem.W.kia_one PySem.W.kitx_list I.kIn ⟨o, h1, h2⟩ (b := true && isI T (.lst [])) (by cases T <;> rfl) (fun z => nomatch z) (by cases T <;> exact h)
  | edc =>
    simp only [Rel] at r; obtain ⟨a, rfl, ha, _⟩ := r; cases ru
    obtain ⟨_, _, vs, _, p⟩ := (show ObjOk X.prog X.w H s.heap a (.dK []) from I.hok a _ ha)
    obtain ⟨o, es, ep, h1, h2, _⟩ := p
    exact PySem.W.kia_one PySem.W.kitx_dict I.kIn ⟨o, h1, h2.1⟩ (b := isI T .edc) (by cases T <;> rfl) (fun z => nomatch z) h
theorem de_isi {a : Expr} {fa : FE} {p p2 pos : Pos} (T : Ty) (hm : X.mg "isinstance" = none) (hmT : X.mg (Str.ofString T.name) = none) (ha : DE X a fa) (hg : Gl X "isinstance" := by rfl) (hgT : Gl X (Str.ofString T.name) := by rfl)
    (hs1 : starEach [a, .Name (Str.ofString T.name) p2] X.env = (false, eval a X.env) :: starEach [.Name (Str.ofString T.name) p2] X.env := by rfl) : DE X (.Call (.Name "isinstance" p) [a, .Name (Str.ofString T.name) p2] [] pos) (fIsi T fa) := .of (by
  have hT : bootBuiltins (Str.ofString T.name) = some (.type T.name) := by
    cases T
    · exact PyProof.Rows.boot_int
    · exact PyProof.Rows.boot_bool
    · exact PyProof.Rows.boot_str
    · exact PyProof.Rows.boot_tuple
    · exact PyProof.Rows.boot_list
    · exact PyProof.Rows.boot_dict
  have hc : CallR X (.builtin "isinstance") (fun xs H Q => ∃ x ι g d, xs = [x, .ty T.name] ∧ RelG X.K H ι g ∧ Rel X.K H ι d x ∧ Q (.bl (isI T d)) H) := by
    intro pins s σ H xs us Q I r q
    obtain ⟨x, ι, g, d, rfl, G0, rd, q⟩ := q
    obtain ⟨u, w', rfl, ru, rt⟩ := vals2 r
    cases rt
    exact isi_call T I G0 rd ru fun tk => ⟨.bl _, H, I.tok _, rfl, q⟩
  refine PE.imp (pe_callB hc hg hm PyProof.Rows.boot_isinstance (pa_cons ha.un (pa_cons (pe_bltn (v := .ty T.name) hgT hmT hT rfl (by cases T <;> decide) (by cases T <;> decide)) pa_nil (by rfl)) hs1) (by decide) (by decide) hs1) fun σ H Q h => ?_
  obtain ⟨ι, σd, g, d, g', G0, S0, h, p⟩ := h
  obtain ⟨⟨d1, g1⟩, h1, h⟩ := bind_some h
  cases h
  exact tD.bind G0 S0 h1 fun H1 ι1 v e1 G1 S1 r1 => ⟨v, ι1, g1, d1, rfl, G1, r1, p H1 ι1 _ e1 G1 (by simp [Rel])⟩)
def bools : List D → Option (List Bool)
  | [] => some []
  | .bl b :: ds => (bools ds).map (b :: ·)
  | _ => none
def bAll (ds : List D) (g : G) : Option (D × G) := match ds with | [.lst xs] => (bools xs).map fun bs => (.bl (bs.all id), g) | _ => none
theorem bools_are {K H ι} : ∀ {xs : List D} {vs : List V} {us : List Value} {bs : List Bool}, bools xs = some bs → RelL K H ι xs vs → Vals vs us → us = bs.map Value.bool
  | [], vs, us, bs, hb, r, rv => by simp only [RelL] at r; subst r; cases rv; cases hb; rfl
  | .bl b :: ds, vs, us, bs, hb, r, rv => by
    simp only [RelL, Rel] at r
    obtain ⟨v, vr, rfl, rfl, hr⟩ := r
    cases rv with
    | cons r0 rr =>
      cases r0
      simp only [bools] at hb
      cases hb' : bools ds with
      | none => rw [hb'] at hb; cases hb
      | some bs' =>
        rw [hb'] at hb; cases hb
        rw [bools_are hb' hr rr]; rfl
  | .non :: ds, _, _, _, hb, _, _ => by simp [bools] at hb
  | .int _ :: ds, _, _, _, hb, _, _ => by simp [bools] at hb
  | .str _ :: ds, _, _, _, hb, _, _ => by simp [bools] at hb
  | .tup _ :: ds, _, _, _, hb, _, _ => by simp [bools] at hb
  | .lst _ :: ds, _, _, _, hb, _, _ => by simp [bools] at hb
  | .edc :: ds, _, _, _, hb, _, _ => by simp [bools] at hb
  | .ref _ :: ds, _, _, _, hb, _, _ => by simp [bools] at hb
theorem kept_iter' {s : Shared} {h' : Heap} {o : Obj} (hk : ∀ b x, b ∉ [s.heap.objs.size] → (s.heap.push o).get? b = some x → h'.get? b = some x) : ∀ b x, s.heap.get? b = some x → h'.get? b = some x :=
  fun b x e => hk b x (fun hm => by rw [List.mem_singleton.mp hm] at e; exact Nat.lt_irrefl _ (Heap.lt_size e)) (Heap.get?_push_of_some _ e)
theorem range_all' (bs : List Bool) : ((List.range bs.length).all fun i => (bs[i]?).getD true) = bs.all id := by
  rw [Bool.eq_iff_iff]
  simp only [List.all_eq_true, List.mem_range, id_eq]
  constructor
  · intro h x hx
    obtain ⟨i, hi, e⟩ := List.mem_iff_getElem.mp hx
    have := h i hi
    rw [List.getElem?_eq_getElem hi, e] at this
    simpa using this
  · intro h i hi
    rw [List.getElem?_eq_getElem hi]
    exact h _ (List.getElem_mem hi)
theorem cd_all (hc : X.calm = true) : CallR X (.builtin "all") (rDL X.K bAll) := by
  intro pins s σ H xs us Q I r q
  obtain ⟨ι, g, ds, d, g', G0, r1, q, p⟩ := q
  unfold bAll at q
  split at q
  · rename_i ys
    cases hb : bools ys with
    | none => rw [hb] at q; cases q
    | some bs =>
      rw [hb] at q; cases q
      simp only [RelL, Rel] at r1
      obtain ⟨_, _, rfl, ⟨a, vs, rfl, hq, hr⟩, rfl⟩ := r1
      obtain ⟨u, rfl, ru⟩ := vals1 r
      cases ru
      obtain ⟨its, rits, pl, hz⟩ := I.list hq.sq
      have e0 := bools_are hb hr rits
      subst e0
      have hl := pl.isList
      have hlt : a < s.heap.objs.size := by obtain ⟨_, e, _⟩ := hl; exact Heap.lt_size e
      refine call_all_walk (wpAny_pyIter_list hl ?_)
      refine ⟨s.heap.objs.size, [s.heap.objs.size, a], [s.heap.objs.size], _, _, _, fun i => (bs[i]?).getD true, rfl, Walks.list (A := X.A.in1) (I.ok.hd hc) _ a (Nat.ne_of_lt hlt) _,
        ⟨⟨_, Heap.get?_push_size _ rfl, rfl, rfl⟩, hl.push _⟩, fun i v s' Q' E' hP hQ => ?_, fun h' tk hk => ?_⟩
      · have hP' : (bs.map Value.bool)[i]? = some v := by simpa using hP
        rw [List.getElem?_map] at hP'
        cases e : bs[i]? with
        | none => rw [e] at hP'; cases hP'
        | some b =>
          rw [e] at hP'; cases hP'
          dsimp only at hQ
          rw [e] at hQ
          exact wpAny_truthy_bool hQ
      · have e : ((List.range (bs.map Value.bool).toArray.size).all fun i => (bs[i]?).getD true) = bs.all id := by
          rw [List.size_toArray, List.length_map]; exact range_all' bs
        rw [e]
        exact ⟨.bl _, H, I.kept (kept_iter' hk), rfl, p H ι _ Ext.refl G0 (by simp [Rel])⟩
  · cases q
end
end L3
namespace L3
open PySem PySem.Spec PyProof.Rows L2
open Sem (wp)
open Builtin
theorem tuple_addW0 (l b : Addr) (items items2 : Array Value) (n n2 : Nat) (dd dd2 : Option Addr) (sl sl2 : Array (Option Value)) (hc0 : items.isEmpty = true) :
    Meets (Builtin.«tuple.__add__» ⟨[.ref l, .ref b], []⟩) (fun _ R s => s.heap.get? l = some { cls := .type "tuple", dict := dd, data := .seq items n, slots := sl } ∧ s.heap.get? b = some { cls := .type "tuple", dict := dd2, data := .seq items2 n2, slots := sl2 } ∧ R (.ok (.ret (Value.ref b))) { s with heap := s.heap, toks := s.toks }) :=
  .of_wp fun prog w A R s h => by obtain ⟨hp, g, d, tk, os⟩ := s; obtain ⟨hl, hb, h⟩ := h; have f1 := AutoSeq1.idx_int; have f2 := AutoSeq1.sub_tuple_tuple; have f3 := AutoSeq1.sub_list_list; have f4 := AutoSeq1.sub_tuple_list; have f5 := AutoSeq1.sub_list_tuple; wp_walk using AutoSeq1.wpAny_loadPart' hl, AutoSeq1.wpAny_loadPart' hb; exact ⟨_, rfl, h⟩
theorem noFill_tuple_mul : fillsNumberSlot (.type "tuple") "mul" = pure false :=
  PySem.fillsNumberSlot_seq (id := "tuple.__mul__") (r := some (.builtin "tuple.__rmul__")) F.slot_tuple_mul.lookup (by decide +kernel) F.slot_tuple_rmul.lookup (by decide +kernel)
theorem repeat_tuple : seqRepeat? (.type "tuple") = pure (some (.builtin "tuple.__mul__")) := by
  unfold seqRepeat?
  rw [PySem.seqSlot_of (T := "tuple") (name := "__mul__") (id := "tuple.__mul__") F.slot_tuple_mul.lookup (by decide +kernel), PySem.seqSlot_of (T := "tuple") (name := "__rmul__") (id := "tuple.__rmul__") F.slot_tuple_rmul.lookup (by decide +kernel)]
  rfl
theorem int_rmul_tuple (a : Int) (t : Tok) (l : Addr) (items : Array Value) (n : Nat) (dd : Option Addr) (sl : Array (Option Value)) :
    Meets (Builtin.«int.__rmul__» ⟨[.int a t, .ref l], []⟩) (fun _ R s => s.heap.get? l = some { cls := .type "tuple", dict := dd, data := .seq items n, slots := sl } ∧ R (.ok (.ret Value.notImplemented)) s) :=
  .of_wp fun prog w A R s h => by obtain ⟨hp, g, d, tk, os⟩ := s; obtain ⟨hl, h⟩ := h; wp_walk; exact ⟨_, rfl, h⟩
theorem tuple_mulW (l : Addr) (items : Array Value) (n : Nat) (dd : Option Addr) (sl : Array (Option Value)) (x : Int) (u : Tok) (h0 : ¬ (decide (x < -(2 ^ 63)) || decide (x ≥ 2 ^ 63)) = true) (h1 : ¬ (items.isEmpty || x == 1) = true) (h2 : ¬ (decide (x ≤ 0) || items.isEmpty) = true)
    (h3 : ¬ (items.size : Int) * x > (2 ^ 63 - 1) / 8) (h4 : ¬ Builtin.Tuple.tupleTooMany ((items.size : Int) * x) = true) (hsz : ((List.replicate x.toNat items).foldl (· ++ ·) #[]).size ≤ sizeLine) :
    Meets (Builtin.«tuple.__mul__» ⟨[.ref l, .int x u], []⟩) (fun _ R s => s.heap.get? l = some { cls := .type "tuple", dict := dd, data := .seq items n, slots := sl } ∧ R (.ok (.ret (Value.ref s.heap.objs.size))) { s with heap := s.heap.push { cls := Value.type "tuple", data := Data.seq ((List.replicate x.toNat items).foldl (· ++ ·) #[]) }, toks := s.toks }) :=
  .of_wp fun prog w A R s h => by
    obtain ⟨hp, g, d, tk, os⟩ := s; obtain ⟨hl, h⟩ := h
    have f1 := AutoSeq1.idx_int; have f2 := AutoSeq1.sub_tuple_tuple
    wp_walk using AutoSeq1.wpAny_loadPart' hl
    refine wpAny_ite_false (decide_eq_false h0) ?_
    wp_walk using AutoSeq1.wpAny_loadPart' hl
    refine wpAny_ite_false (decide_eq_false h3) ?_
    wp_walk using AutoSeq1.wpAny_loadPart' hl
    exact ⟨_, rfl, h⟩
theorem tuple_mulW1 (l : Addr) (items : Array Value) (n : Nat) (dd : Option Addr) (sl : Array (Option Value)) (x : Int) (u : Tok) (h0 : ¬ (decide (x < -(2 ^ 63)) || decide (x ≥ 2 ^ 63)) = true) (h1 : (items.isEmpty || x == 1) = true) :
    Meets (Builtin.«tuple.__mul__» ⟨[.ref l, .int x u], []⟩) (fun _ R s => s.heap.get? l = some { cls := .type "tuple", dict := dd, data := .seq items n, slots := sl } ∧ R (.ok (.ret (Value.ref l))) { s with heap := s.heap, toks := s.toks }) :=
  .of_wp fun prog w A R s h => by
    obtain ⟨hp, g, d, tk, os⟩ := s; obtain ⟨hl, h⟩ := h
    have f1 := AutoSeq1.idx_int; have f2 := AutoSeq1.sub_tuple_tuple
    wp_walk using AutoSeq1.wpAny_loadPart' hl
    refine wpAny_ite_false (decide_eq_false h0) ?_
    wp_walk using AutoSeq1.wpAny_loadPart' hl
    exact ⟨_, rfl, h⟩
theorem tuple_mulW0 (l : Addr) (items : Array Value) (n : Nat) (dd : Option Addr) (sl : Array (Option Value)) (x : Int) (u : Tok) (h0 : ¬ (decide (x < -(2 ^ 63)) || decide (x ≥ 2 ^ 63)) = true) (h1 : ¬ (items.isEmpty || x == 1) = true) (h2 : (decide (x ≤ 0) || items.isEmpty) = true) :
    Meets (Builtin.«tuple.__mul__» ⟨[.ref l, .int x u], []⟩) (fun _ R s => s.heap.get? l = some { cls := .type "tuple", dict := dd, data := .seq items n, slots := sl } ∧ R (.ok (.ret (Value.ref s.heap.objs.size))) { s with heap := s.heap.push { cls := Value.type "tuple", data := Data.seq #[] }, toks := s.toks }) :=
  .of_wp fun prog w A R s h => by
    obtain ⟨hp, g, d, tk, os⟩ := s; obtain ⟨hl, h⟩ := h
    have f1 := AutoSeq1.idx_int; have f2 := AutoSeq1.sub_tuple_tuple
    wp_walk using AutoSeq1.wpAny_loadPart' hl
    refine wpAny_ite_false (decide_eq_false h0) ?_
    wp_walk using AutoSeq1.wpAny_loadPart' hl
    exact ⟨_, rfl, h⟩
section
variable {X : Cx}
def rMulT (K : PySem.W.Frag) : R2 := fun x y H Q => ∃ a k xs, x = .ref a ∧ y = .int k ∧ SqT K H a xs ∧ -(2 ^ 63) ≤ k ∧ k < 2 ^ 63 ∧ xs.length * k.toNat ≤ 16777216 ∧
  ((xs = [] ∨ k = 1) → Q (.ref a) H) ∧ (xs ≠ [] → k ≤ 0 → ∀ p, H p = none → Q (.ref p) (upd H p (.tup []))) ∧ (xs ≠ [] → 2 ≤ k → ∀ p, H p = none → Q (.ref p) (upd H p (.tup (List.replicate k.toNat xs).flatten)))
theorem op_mulT : OpR X (binaryOp .Mult) (rMulT X.K) := by
  intro pins s σ H x y v u Q I rx ry h
  obtain ⟨a, k, xs, rfl, rfl, hq, h1, h2, hz, q1, q0, q2⟩ := h
  cases rx
  obtain ⟨t, rfl⟩ := ry
  obtain ⟨its, r, ht, hzz⟩ := I.tuple hq
  have hl := r.length
  obtain ⟨⟨cls, dd, data, sl⟩, ho, hc, n, hd⟩ := id ht
  simp only at hc hd
  subst hc hd
  have hk : ¬ (decide (k < -(2 ^ 63)) || decide (k ≥ 2 ^ 63)) = true := by
    rw [Bool.or_eq_true, decide_eq_true_eq, decide_eq_true_eq]
    omega
  refine wpAny_binaryOp_repeat_ref (T := "tuple") (U := "int") (by decide) ⟨_, ho, rfl⟩ (fun s' => typeIs_int s' k t) noFill_tuple_mul F.fills_int_mul F.slot_int_rmul repeat_tuple F.slot_int_index.lookup
    (call_meets F.slot_int_rmul (typeIs_int s k t) F.entry_int_rmul (F.args_int_rmul_2 _ _) (int_rmul_tuple k t a its.toArray n dd sl) ⟨ho, rfl, ⟨_, ho, rfl⟩, ?_⟩)
  by_cases c1 : xs = [] ∨ k = 1
  · refine call_meets F.slot_tuple_mul ⟨_, ho, rfl⟩ F.entry_tuple_mul (F.args_tuple_mul_2 _ _) (tuple_mulW1 a its.toArray n dd sl k t hk ?_) ⟨ho, .ref a, H, I, rfl, q1 c1⟩
    rcases c1 with c1 | c1
    · subst c1
      cases r
      simp
    · subst c1; simp
  · have hx : xs ≠ [] := fun e => c1 (.inl e)
    have hk1 : k ≠ 1 := fun e => c1 (.inr e)
    have hi : its ≠ [] := fun e => hx (by subst e; cases r; rfl)
    have n1 : ¬ (its.toArray.isEmpty || k == 1) = true := by simp [hi, hk1]
    have fresh : H s.heap.objs.size = none := I.hok.fresh (Nat.le_refl _)
    by_cases c0 : k ≤ 0
    · refine call_meets F.slot_tuple_mul ⟨_, ho, rfl⟩ F.entry_tuple_mul (F.args_tuple_mul_2 _ _) (tuple_mulW0 a its.toArray n dd sl k t hk n1 (by simp [c0])) ⟨ho, ?_⟩
      refine ⟨.ref _, _, I.laid (t' := s.toks) (fun b u e => Heap.get?_push_of_some _ e) (Nat.le_refl _) ?_, rfl, q0 hx c0 _ fresh⟩
      exact ⟨Nat.zero_le _, [], .nil, ⟨_, Heap.get?_push_size _ rfl, rfl, _, rfl⟩⟩
    · have hnew : List.foldl (fun x1 x2 => x1 ++ x2) #[] (List.replicate k.toNat its.toArray) = (List.replicate k.toNat its).flatten.toArray := by
        have := foldl_rep its k.toNat []
        rw [List.nil_append] at this
        exact this
      have hs : sizeLine = 16777216 := sizeLine_eq
      have hsz : (its.length : Int) * k ≤ 16777216 := by
        have e1 : ((xs.length * k.toNat : Nat) : Int) ≤ 16777216 := Int.ofNat_le.mpr hz
        rw [Int.natCast_mul, Int.toNat_of_nonneg (by omega), hl] at e1
        exact e1
      refine call_meets F.slot_tuple_mul ⟨_, ho, rfl⟩ F.entry_tuple_mul (F.args_tuple_mul_2 _ _) (tuple_mulW a its.toArray n dd sl k t hk n1 (by simp [c0, hi]) (by rw [List.size_toArray]; omega) ?_ ?_) ⟨ho, ?_⟩
      · rw [List.size_toArray]
        unfold Tuple.tupleTooMany
        simp
        omega
      · rw [hnew, List.size_toArray, len_rep, ← hl, Nat.mul_comm, hs]; exact hz
      · rw [hnew]
        refine ⟨.ref _, _, I.laid (t' := s.toks) (fun b u e => Heap.get?_push_of_some _ e) (Nat.le_refl _) ?_, rfl, q2 hx (by omega) _ fresh⟩
        exact ⟨by rw [len_rep, Nat.mul_comm, hs]; exact hz, _, r.rep k.toNat, ⟨_, Heap.get?_push_size _ rfl, rfl, _, rfl⟩⟩
theorem RelL.rep {K H ι} {xs : List D} {vs : List V} (r : RelL K H ι xs vs) : ∀ k : Nat, RelL K H ι (List.replicate k xs).flatten (List.replicate k vs).flatten
  | 0 => by simp [RelL]
  | k + 1 => by
    rw [List.replicate_succ, List.replicate_succ, List.flatten_cons, List.flatten_cons]
    exact RelL.append r (RelL.rep r k)
def oMul (d1 d2 : D) (g : G) : Option (D × G) := match d1, d2 with
  | .int i, .int j => if okMul i j = true then some (.int (i * j), g) else none
  | .tup xs, .int k => if (okR k && szOk (xs.length * k.toNat)) = true then some (.tup (List.replicate k.toNat xs).flatten, g) else none
  | _, _ => none
theorem od_mul : OpR X (binaryOp .Mult) (rD2 X.K oMul) := by
  intro pins s σ H x y v u Q I rx ry q
  obtain ⟨ι, g, d1, d2, d, g', G0, r1, r2, q, p⟩ := q
  unfold oMul at q
  split at q
  · split at q
    · rename_i i j z
      exact od_mulI pins s σ H x y v u Q I rx ry ⟨ι, g, .int i, .int j, d, g', G0, r1, r2, by simp only [iOp]; rw [if_pos z]; exact q, p⟩
    · cases q
  · split at q
    · rename_i xs k z
      simp only [Bool.and_eq_true] at z
      have z1 := okR.and z.1
      have z2 := szOk.le z.2
      cases q
      simp only [Rel] at r1 r2
      obtain ⟨a, vs, rfl, hq, hr⟩ := r1
      subst r2
      have hl := hr.length
      have new : ∀ {zs : List D} {ws : List V}, RelL X.K H ι zs ws → zs = (List.replicate k.toNat xs).flatten → ∀ q, H q = none → Q (.ref q) (upd H q (.tup ws)) := fun {zs ws} rz ez q hq' => by
        subst ez
        refine p _ _ _ (Ext.lay hq') (G0.lay hq') ?_
        simp only [Rel]
        exact ⟨q, ws, rfl, .inl ⟨.inl upd_same, G0.fresh hq'⟩, RelL.ext (Ext.lay hq') _ rz⟩
      refine op_mulT pins s σ H _ _ v u Q I rx ry ⟨a, k, vs, rfl, rfl, hq.sq, (by omega), (by omega), by rw [← hl]; exact z2, fun c => ?_, fun hx hk => ?_, fun hx hk => ?_⟩
      · refine p H ι _ Ext.refl G0 ?_
        simp only [Rel]
        refine ⟨a, vs, rfl, hq, ?_⟩
        rcases c with c | c
        · subst c
          have : xs = [] := List.eq_nil_of_length_eq_zero (by simpa using hl)
          subst this
          have e0 : (List.replicate k.toNat ([] : List D)).flatten = [] := by simp
          rw [e0]; exact hr
        · subst c
          have e0 : (List.replicate (1 : Int).toNat xs).flatten = xs := by simp
          rw [e0]; exact hr
      · refine new (zs := []) (by simp [RelL]) ?_
        have : k.toNat = 0 := by omega
        rw [this]; simp
      · exact new (hr.rep k.toNat) rfl
    · cases q
  · cases q
theorem op_catT0 : OpR X (binaryOp .Add) (fun x y H Q => ∃ a b ys, x = .ref a ∧ y = .ref b ∧ SqT X.K H a [] ∧ SqT X.K H b ys ∧ Q (.ref b) H) := by
  intro pins s σ H x y v u Q I rx ry h
  obtain ⟨a, b, ys, rfl, rfl, ha, hb, q⟩ := h
  cases rx
  cases ry
  obtain ⟨its, r1, p1, _⟩ := I.tuple ha
  obtain ⟨its2, r2, p2, _⟩ := I.tuple hb
  obtain ⟨⟨cls, dd, data, sl⟩, ho, hc, n, hd⟩ := id p1
  obtain ⟨⟨cls2, dd2, data2, sl2⟩, ho2, hc2, n2, hd2⟩ := id p2
  simp only at hc hd hc2 hd2
  subst hc hd hc2 hd2
  exact concat_meets ⟨_, ho, rfl⟩ ⟨_, ho2, rfl⟩ noFill_tuple_add seq_tuple_add PySem.F.slot_tuple_add PySem.F.entry_tuple_add (PySem.F.args_tuple_add_2 _ _)
      (tuple_addW0 a b its.toArray its2.toArray n n2 dd dd2 sl sl2 (by cases r1; simp)) ⟨ho, ho2, .ref b, H, I, rfl, q⟩
theorem op_catL : OpR X (binaryOp .Add) (fun x y H Q => ∃ a b xs ys, x = .ref a ∧ y = .ref b ∧ SqL X.K H a xs ∧ SqL X.K H b ys ∧ xs.length + ys.length ≤ sizeLine ∧ ∀ p, H p = none → Q (.ref p) (upd H p (.lst (xs ++ ys)))) := by
  intro pins s σ H x y v u Q I rx ry h
  obtain ⟨a, b, xs, ys, rfl, rfl, ha, hb, hz, q⟩ := h
  cases rx
  cases ry
  obtain ⟨its, r1, p1, _⟩ := I.list ha
  obtain ⟨its2, r2, p2, _⟩ := I.list hb
  obtain ⟨⟨cls, dd, data, sl⟩, n, ho, hc, hdd, hd⟩ := id p1
  obtain ⟨⟨cls2, dd2, data2, sl2⟩, n2, ho2, hc2, hdd2, hd2⟩ := id p2
  simp only at hc hd hc2 hd2 hdd hdd2
  subst hc hd hc2 hd2 hdd hdd2
  have e : its.toArray ++ its2.toArray = (its ++ its2).toArray := by simp
  have hl : its.length + its2.length ≤ sizeLine := by rw [← r1.length, ← r2.length]; exact hz
  refine concat_meets ⟨_, ho, rfl⟩ ⟨_, ho2, rfl⟩ noFill_list_add seq_list_add PySem.F.slot_list_add PySem.F.entry_list_add (PySem.F.args_list_add_2 _ _) (list_addW a b its.toArray its2.toArray n n2 none none sl sl2 (by simpa using hl)) ⟨ho, ho2, ?_⟩
  rw [e]
  exact ⟨.ref _, _, I.lnew (t' := s.toks) (r1.append r2) (by rw [List.length_append]; exact hz), rfl, q _ I.fresh⟩
def lstOf (d : D) (g : G) : Option (List D) := match d with
  | .lst xs => some xs
  | .ref n => g[n]?
  | _ => none
theorem lstOf_sq {K H ι g d v xs} (G0 : RelG K H ι g) (r : Rel K H ι d v) (h : lstOf d g = some xs) : ∃ a vs, v = .ref a ∧ SqL K H a vs ∧ RelL K H ι xs vs := by
  cases d with
  | lst ys =>
    cases h
    simp only [Rel] at r
    obtain ⟨a, vs, rfl, hq, hr⟩ := r
    exact ⟨a, vs, rfl, hq.sq, hr⟩
  | ref n =>
    simp only [Rel] at r
    obtain ⟨a, rfl, ha⟩ := r
    obtain ⟨vs, h1, h2⟩ := G0.at h ha
    exact ⟨a, vs, rfl, .of h1, h2⟩
  | _ => cases h
def oAdd (d1 d2 : D) (g : G) : Option (D × G) := match d1, d2 with
  | .int i, .int j => some (.int (i + j), g)
  | .tup xs, .tup ys => if szOk (xs.length + ys.length) = true then some (.tup (xs ++ ys), g) else none
  | .str i, .str j => if szOk (i.length + j.length) = true then some (.str (i ++ j), g) else none
  | d1, d2 => match lstOf d1 g, lstOf d2 g with
    | some xs, some ys => if szOk (xs.length + ys.length) = true then some (.lst (xs ++ ys), g) else none
    | _, _ => none
theorem od_add : OpR X (binaryOp .Add) (rD2 X.K oAdd) := by
  intro pins s σ H x y v u Q I rx ry q
  obtain ⟨ι, g, d1, d2, d, g', G0, r1, r2, q, p⟩ := q
  unfold oAdd at q
  split at q
  · rename_i i j
    exact od_addI pins s σ H x y v u Q I rx ry ⟨ι, g, .int i, .int j, d, g', G0, r1, r2, q, p⟩
  · split at q
    · rename_i xs ys z
      cases q
      simp only [Rel] at r1 r2
      obtain ⟨a, vs, rfl, hq, hr⟩ := r1
      obtain ⟨b, ws, rfl, hq2, hr2⟩ := r2
      by_cases hx : vs = []
      · subst hx
        have : xs = [] := List.eq_nil_of_length_eq_zero (by simpa using hr.length)
        subst this
        refine op_catT0 pins s σ H _ _ v u Q I rx ry ⟨a, b, ws, rfl, rfl, hq.sq, hq2.sq, p H ι _ Ext.refl G0 ?_⟩
        simp only [Rel, List.nil_append]
        exact ⟨b, ws, rfl, hq2, hr2⟩
      · refine op_catT pins s σ H _ _ v u Q I rx ry ⟨a, b, vs, ws, rfl, rfl, hq.sq, hq2.sq, hx, by rw [← hr.length, ← hr2.length]; exact szOk.le z, fun e => ?_, fun e q' hq' => ?_⟩
        · subst e
          have : ys = [] := List.eq_nil_of_length_eq_zero (by simpa using hr2.length)
          subst this
          refine p H ι _ Ext.refl G0 ?_
          simp only [Rel, List.append_nil]
          exact ⟨a, vs, rfl, hq, hr⟩
        · refine p _ _ _ (Ext.lay hq') (G0.lay hq') ?_
          simp only [Rel]
          exact ⟨q', _, rfl, .inl ⟨.inl upd_same, G0.fresh hq'⟩, RelL.ext (Ext.lay hq') _ (RelL.append hr hr2)⟩
    · cases q
  · split at q
    · rename_i x1 y1 z
      cases q
      simp only [Rel] at r1 r2
      subst r1 r2
      exact op_add_str pins s σ H _ _ v u Q I rx ry ⟨x1, y1, rfl, rfl, szOk.le z, p H ι _ Ext.refl G0 (by simp [Rel])⟩
    · cases q
  · split at q
    · rename_i xs ys e1 e2
      split at q
      · rename_i z
        cases q
        obtain ⟨a, vs, rfl, hq, hr⟩ := lstOf_sq G0 r1 e1
        obtain ⟨b, ws, rfl, hq2, hr2⟩ := lstOf_sq G0 r2 e2
        refine op_catL pins s σ H _ _ v u Q I rx ry ⟨a, b, vs, ws, rfl, rfl, hq, hq2, by rw [← hr.length, ← hr2.length]; exact szOk.le z, fun q' hq' => ?_⟩
        refine p _ _ _ (Ext.lay hq') (G0.lay hq') ?_
        simp only [Rel]
        exact ⟨q', _, rfl, .inl ⟨.inl upd_same, G0.fresh hq', G0.freshH hq'⟩, RelL.ext (Ext.lay hq') _ (RelL.append hr hr2)⟩
      · cases q
    · cases q
abbrev FO := Sg → G → Option (Option Int × G)
inductive tDO (K : PySem.W.Frag) (f : FO)  (σ : L2.St) (H : Hp) (Q : (Option Int → Hp → Prop)) : Prop
  | mk (ι : Ix) (σd : Sg) (g : G) (o : Option Int) (g' : G) (h0 : RelG K H ι g) (h1 : RelS K H ι σd σ) (h2 : f σd g = some (o, g')) (h3 : PostB K H ι g' (Q o)) : tDO K f σ H Q
structure DO (X : Cx) (e : Option Expr) (f : FO) : Prop where of ::
  un : PO X e (tDO X.K f)
theorem PO.imp {X : Cx} {e : Option Expr} {t t' : TO} (h : PO X e t) (i : ∀ σ H Q, t' σ H Q → t σ H Q) : PO X e t' := fun pins s σ H Q I q => h pins s σ H Q I (i σ H Q q)
def fNoP : FO := fun _ g => some (none, g)
def fPart (f : FE) : FO := fun σ g => (f σ g).bind fun r => match r.1 with | .int i => some (some i, r.2) | _ => none
theorem do_none : DO X none fNoP := .of (PO.imp po_none fun σ H Q h => by
  obtain ⟨ι, σd, g, o, g', G0, S0, h, p⟩ := h
  cases h
  exact p H ι Ext.refl G0)
theorem do_some {e : Expr} {f : FE} (h : DE X e f) : DO X (some e) (fPart f) := .of (PO.imp (po_some h.un) fun σ H Q h => by
  obtain ⟨ι, σd, g, o, g', G0, S0, h, p⟩ := h
  obtain ⟨⟨d, g1⟩, h1, h⟩ := bind_some h
  cases d with
  | int i =>
    cases h
    exact tD.bind G0 S0 h1 fun H1 ι1 v e1 G1 S1 r1 => ⟨i, by simpa [Rel] using r1, p H1 ι1 e1 G1⟩
  | _ => cases h)
def cutD (xs : List D) (lo hi : Option Int) : List D := (xs.drop (HT.sIx xs.length 0 lo)).take (HT.sIx xs.length xs.length hi - HT.sIx xs.length 0 lo)
def wholeD (n : Nat) (lo hi : Option Int) : Bool := decide (HT.sIx n 0 lo = 0) && decide (HT.sIx n n hi = n)
def oSl (d : D) (lo hi : Option Int) (g : G) : Option (D × G) := match d with
  | .tup xs => if wholeD xs.length lo hi = true then none else some (.tup (cutD xs lo hi), g)
  | .lst xs => some (.lst (cutD xs lo hi), g)
  | .ref n => match g[n]? with | some xs => some (.lst (cutD xs lo hi), g) | none => none
  | _ => none
theorem RelL.cutv {K H ι} {xs : List D} {vs : List V} (r : RelL K H ι xs vs) (lo hi : Option Int) : RelL K H ι (cutD xs lo hi) (cutV vs lo hi) := by
  unfold cutD cutV
  rw [← r.length]
  exact RelL.take _ (RelL.drop _ r)
def rSlD (K : PySem.W.Frag) : V → Option Int → Option Int → Hp → VK → Prop := fun x lo hi H Q => rSlT K x lo hi H Q ∨ rSlL K x lo hi H Q
theorem sl_both : SlR X (rSlD X.K) := by
  intro pins s σ H x v vl vu lo hi sl Q I rx hs pl pu h
  rcases h with h | h
  · exact sl_tup pins s σ H x v vl vu lo hi sl Q I rx hs pl pu h
  · exact sl_list pins s σ H x v vl vu lo hi sl Q I rx hs pl pu h
theorem big {pins : List (Addr × Obj)} {σ : L2.St} {H : Hp} {s : Shared} (I : Inv X pins σ H s) : sysModules < s.heap.objs.size := by
  obtain ⟨o, es, ep, e, _⟩ := I.mod.glob
  have h1 := Heap.lt_size (I.bk _ _ e)
  exact Nat.lt_trans (by decide) h1
theorem de_dict0 {pos : Pos} : DE X (.Dict [] [] pos) (fC .edc) := .of (by
  intro pins s σ H Q I h
  obtain ⟨ι, σd, g, d, g', G0, S0, h, p⟩ := h
  cases h
  have hf : H s.heap.objs.size = none := I.hok.fresh (Nat.le_refl _)
  refine wpAny_Dict_empty ⟨.ref s.heap.objs.size, upd H s.heap.objs.size (.dK []), I.laid (t' := s.toks) (fun b u e => Heap.get?_push_of_some _ e) (Nat.le_refl _) ?_, rfl, p _ _ _ (Ext.lay hf) (G0.lay hf) ?_⟩
  · exact ⟨Nat.zero_le _, beq_eq_false_iff_ne.mpr (Ne.symm (Nat.ne_of_lt (big I))), [], .nil, Heap.DictOf.new _⟩
  · simp only [Rel]
    exact ⟨_, rfl, upd_same, G0.fresh hf⟩)
end
end L3
namespace L3
open PySem PySem.Spec PyProof.Rows L2
def oLt := iCm fun i j => decide (i < j)
def oLe := iCm fun i j => decide (i ≤ j)
def oGt := iCm fun i j => decide (j < i)
def oGe := iCm fun i j => decide (j ≤ i)
def compChk (S : Scope) (XN N : List Str) (fr : List (Option Nat)) (scope : Scope) : Bool :=
  decide (scope.kind = .function) && scope.names.all (fun y => decide (y.2 ≠ .cell)) && scope.names.all (fun y => !decide (y.2 = .local) || decide (scope.names.lookup y.1 = some .local)) &&
  scope.names.all (fun y => !decide (y.2 = .free) || (decide (scope.names.lookup y.1 = some .free) && (decide (S.names.lookup y.1 = some .cell) || decide (S.names.lookup y.1 = some .free)))) &&
  decide (fr.length = N.length) && (List.range fr.length).all (fun j => match fr[j]? with
    | some (some i) => match N[j]? with
      | some x => decide (XN[i]? = some x) && decide (scope.names.lookup x = some .free)
      | none => false
    | _ => true)
theorem compOk_of {X : Cx} {N : List Str} {fr : List (Option Nat)} {scope : Scope} {S : Scope} {XN : List Str} (hS : X.env.scope = S) (hN : X.N = XN) (h : compChk S XN N fr scope = true) : CompOk X N fr scope := by
  unfold compChk at h
  simp only [Bool.and_eq_true, decide_eq_true_eq, List.all_eq_true, Bool.or_eq_true, Bool.not_eq_true', decide_eq_false_iff_not] at h
  obtain ⟨⟨⟨⟨⟨h1, h2⟩, h3⟩, h4⟩, h5⟩, h6⟩ := h
  refine ⟨h1, h2, fun y hy e => ?_, fun y hy e => ?_, h5, fun j i hf => ?_⟩
  · rcases h3 y hy with z | z
    · exact absurd e z
    · exact z
  · rcases h4 y hy with z | z
    · exact absurd e z
    · refine ⟨z.1, ?_⟩
      show X.env.scope.names.lookup y.1 = _ ∨ X.env.scope.names.lookup y.1 = _
      rw [hS]; exact z.2
  · have hj : j ∈ List.range fr.length := List.mem_range.mpr (List.getElem?_eq_some_iff.mp hf).1
    have := h6 j hj
    rw [hf] at this
    dsimp only at this
    split at this
    · rename_i x hx
      simp only [Bool.and_eq_true, decide_eq_true_eq] at this
      exact ⟨x, hx, by rw [hN]; exact this.1, this.2⟩
    · cases this
def iSeq (f : FE) : FI := fun σ g => (f σ g).bind fun r => match r.1 with | .tup xs => some (xs, r.2) | .lst xs => some (xs, r.2) | _ => none
theorem di_seq {X : Cx} {tg l : Expr} {fe : FE} (hl : DE X l fe) : DI X tg l (iSeq fe) := .of (by
  intro pins s σ H R I h
  obtain ⟨ι, σd, g, ds, g', G0, S0, h, p⟩ := h
  obtain ⟨⟨d1, g1⟩, h1, h2⟩ := bind_some h
  cases d1 with
  | tup xs =>
    have h3 : iSeqT fe σd g = some (ds, g') := by unfold iSeqT; rw [h1]; exact h2
    exact (di_tup hl).un pins s σ H R I ⟨ι, σd, g, ds, g', G0, S0, h3, p⟩
  | lst xs =>
    have h3 : iSeqL fe σd g = some (ds, g') := by unfold iSeqL; rw [h1]; exact h2
    exact (di_lst hl).un pins s σ H R I ⟨ι, σd, g, ds, g', G0, S0, h3, p⟩
  | _ => cases h2)
end L3
namespace L3
open PySem L2
section
variable {σ : Sg} {g : G} {fa fb fc : FE} {fr : FA} {ga gb : FT} {f1 f2 : FS} {o o' : D → D → G → Option (D × G)} {fn : Fn} {t : FG} {ts : FGs}
@[simp] theorem ev_fC {d} : fC d σ g = some (d, g) := rfl
@[simp] theorem ev_fVar {i : Nat} : fVar i σ g = (match σ[i]? with | some (some d) => some (d, g) | _ => none) := rfl
@[simp] theorem ev_fOp : fOp o fa fb σ g = (fa σ g).bind fun r => (fb σ r.2).bind fun q => o r.1 q.1 q.2 := rfl
@[simp] theorem ev_fUn {o : D → G → Option (D × G)} : fUn o fa σ g = (fa σ g).bind fun r => o r.1 r.2 := rfl
@[simp] theorem ev_asB {b : Bool} : asB (some (.bl b, g)) = some (b, g) := rfl
@[simp] theorem ev_fTest : fTest fa σ g = asB (fa σ g) := rfl
@[simp] theorem ev_fChain : fChain o o' fa fb fc σ g = (fa σ g).bind fun r => (fb σ r.2).bind fun q => (asB (o r.1 q.1 q.2)).bind fun k => if k.1 = true then (fc σ k.2).bind fun w => o' q.1 w.1 w.2 else some (.bl false, k.2) := rfl
@[simp] theorem ev_fTru : fTru fa σ g = (fa σ g).bind fun r => (truD r.1 r.2).map fun b => (b, r.2) := rfl
@[simp] theorem ev_tru_bl {b : Bool} : truD (.bl b) g = some b := rfl
@[simp] theorem ev_tru_int {i : Int} : truD (.int i) g = some (i != 0) := rfl
@[simp] theorem ev_fAnd : fAnd ga gb σ g = (ga σ g).bind fun r => if r.1 = true then gb σ r.2 else some (false, r.2) := rfl
@[simp] theorem ev_fOr : fOr ga gb σ g = (ga σ g).bind fun r => if r.1 = true then some (true, r.2) else gb σ r.2 := rfl
@[simp] theorem ev_fNot : fNot ga σ g = (ga σ g).bind fun r => some (!r.1, r.2) := rfl
@[simp] theorem ev_fAndV : fAndV fa fb σ g = (asB (fa σ g)).bind fun r => if r.1 = true then fb σ r.2 else some (.bl false, r.2) := rfl
@[simp] theorem ev_fOrV : fOrV fa fb σ g = (asB (fa σ g)).bind fun r => if r.1 = true then some (.bl true, r.2) else fb σ r.2 := rfl
@[simp] theorem ev_fNotV : fNotV fa σ g = (asB (fa σ g)).bind fun r => some (.bl (!r.1), r.2) := rfl
@[simp] theorem ev_fNil : fNil σ g = some ([], g) := rfl
@[simp] theorem ev_fCons : fCons fa fr σ g = (fa σ g).bind fun r => (fr σ r.2).bind fun q => some (r.1 :: q.1, q.2) := rfl
@[simp] theorem ev_fMk {m : List D → G → Option (D × G)} : fMk m fr σ g = (fr σ g).bind fun r => m r.1 r.2 := rfl
@[simp] theorem sz_of {n : Nat} (h : n ≤ 16777216) : szOk n = true := decide_eq_true h
@[simp] theorem ev_mkTup' {ds : List D} : mkTup ds g = if szOk ds.length = true then some (.tup ds, g) else none := rfl
@[simp] theorem ev_mkLst' {ds : List D} : mkLst ds g = if szOk ds.length = true then some (.lst ds, g) else none := rfl
@[simp] theorem ev_mkRef' {ds : List D} : mkRef ds g = if szOk ds.length = true then some (.ref g.length, g ++ [ds]) else none := rfl
@[simp] theorem ev_fSkip : fSkip σ g = some (.nx, σ, g) := rfl
@[simp] theorem ev_fSeq : fSeq f1 f2 σ g = (f1 σ g).bind fun r => match r.1 with | .nx => f2 r.2.1 r.2.2 | _ => some r := rfl
@[simp] theorem ev_fRet : fRet fa σ g = (fa σ g).bind fun r => some (.rt r.1, σ, r.2) := rfl
@[simp] theorem ev_fIf : fIf ga f1 f2 σ g = (ga σ g).bind fun r => if r.1 = true then f1 σ r.2 else f2 σ r.2 := rfl
@[simp] theorem ev_fDrop : fDrop fa σ g = (fa σ g).bind fun r => some (.nx, σ, r.2) := rfl
@[simp] theorem ev_fAsg : fAsg fa t σ g = (fa σ g).bind fun r => (t r.1 σ r.2).bind fun q => some (.nx, q.1, q.2) := rfl
@[simp] theorem ev_gN {i : Nat} {d : D} : gN i d σ g = some (σ.set i (some d), g) := rfl
@[simp] theorem ev_gNils : gNils [] σ g = some (σ, g) := rfl
@[simp] theorem ev_gConss {d : D} {r : List D} : gConss t ts (d :: r) σ g = (t d σ g).bind fun q => ts r q.1 q.2 := rfl
@[simp] theorem ev_gT {n : Nat} {xs : List D} : gT n ts (.tup xs) σ g = if xs.length = n then ts xs σ g else none := rfl
@[simp] theorem ev_gIx {v : D} : gIx fa fb v σ g = (fa σ g).bind fun r => (fb σ r.2).bind fun q => (putD r.1 q.1 v q.2).map fun g' => (σ, g') := rfl
@[simp] theorem ev_fCall : fCall fn fr σ g = (fr σ g).bind fun r => fn r.1 r.2 := rfl
@[simp] theorem ev_fIsi {T : Ty} : fIsi T fa σ g = (fa σ g).bind fun r => some (.bl (isI T r.1), r.2) := rfl
@[simp] theorem ev_fFor {i : FI} : fFor i t f1 σ g = (i σ g).bind fun r => forL t f1 r.1 σ r.2 := rfl
@[simp] theorem ev_iSeq : iSeq fa σ g = (fa σ g).bind fun r => match r.1 with | .tup xs => some (xs, r.2) | .lst xs => some (xs, r.2) | _ => none := rfl
@[simp] theorem ev_iSeqT : iSeqT fa σ g = (fa σ g).bind fun r => match r.1 with | .tup xs => some (xs, r.2) | _ => none := rfl
@[simp] theorem ev_iSeqL : iSeqL fa σ g = (fa σ g).bind fun r => match r.1 with | .lst xs => some (xs, r.2) | _ => none := rfl
@[simp] theorem ev_fComp {mk : List D → G → Option (D × G)} {fi : FI} {fr : List (Option Nat)} {c : FT} : fComp mk fi fr t c fa σ g = (fi σ g).bind fun r => if szOk r.1.length = true then (compL t c fa r.1 (subS fr σ) r.2).bind fun q => mk q.1 q.2 else none := rfl
@[simp] theorem ev_cLst {ds : List D} : cLst ds g = some (.lst ds, g) := rfl
@[simp] theorem ev_fTrue : fTrue σ g = some (true, g) := rfl
@[simp] theorem ev_iOp {c : Int → Int → Bool} {f : Int → Int → Int} {i j : Int} : iOp c f (.int i) (.int j) g = if c i j = true then some (.int (f i j), g) else none := rfl
@[simp] theorem ev_okAny {i j : Int} : okAny i j = true := rfl
@[simp] theorem ev_oLt {i j : Int} : oLt (.int i) (.int j) g = some (.bl (decide (i < j)), g) := rfl
@[simp] theorem ev_oLe {i j : Int} : oLe (.int i) (.int j) g = some (.bl (decide (i ≤ j)), g) := rfl
@[simp] theorem ev_oGt {i j : Int} : oGt (.int i) (.int j) g = some (.bl (decide (j < i)), g) := rfl
@[simp] theorem ev_oGe {i j : Int} : oGe (.int i) (.int j) g = some (.bl (decide (j ≤ i)), g) := rfl
@[simp] theorem ev_uNeg {i : Int} : uNeg (.int i) g = some (.int (-i), g) := rfl
@[simp] theorem ev_oAdd {i j : Int} : oAdd (.int i) (.int j) g = some (.int (i + j), g) := rfl
@[simp] theorem ev_oMul {i j : Int} : oMul (.int i) (.int j) g = if okMul i j = true then some (.int (i * j), g) else none := rfl
@[simp] theorem ev_oIx {d : D} {i : Int} : oIx d (.int i) g = (seqOf d g).bind fun xs => (atI xs i).map fun e => (e, g) := rfl
@[simp] theorem ev_seqT {xs : List D} : seqOf (.tup xs) g = some xs := rfl
@[simp] theorem ev_seqL {xs : List D} : seqOf (.lst xs) g = some xs := rfl
@[simp] theorem ev_seqR {n : Nat} : seqOf (.ref n) g = g[n]? := rfl
@[simp] theorem ev_bLen {d : D} : bLen [d] g = (seqOf d g).map fun xs => (.int xs.length, g) := rfl
@[simp] theorem ev_bMax {i j : Int} : bMax [.int i, .int j] g = some (.int (if j > i then j else i), g) := rfl
@[simp] theorem ev_bMin {i j : Int} : bMin [.int i, .int j] g = some (.int (if j < i then j else i), g) := rfl
@[simp] theorem ev_bIntB {k : Bool} : bInt [.bl k] g = some (.int (if k then 1 else 0), g) := rfl
@[simp] theorem ev_bIntI {i : Int} : bInt [.int i] g = some (.int i, g) := rfl
@[simp] theorem ev_bTup {d : D} : bTup [d] g = (seqOf d g).bind fun xs => if szOk xs.length = true then some (.tup xs, g) else none := rfl
@[simp] theorem ev_bLst {d : D} : bLst [d] g = (seqOf d g).bind fun xs => if szOk xs.length = true then some (.lst xs, g) else none := rfl
@[simp] theorem ev_bAll {xs : List D} : bAll [.lst xs] g = (bools xs).map fun bs => (.bl (bs.all id), g) := rfl
@[simp] theorem ev_oEqI {i j : Int} : oEq (.int i) (.int j) g = some (.bl (i == j), g) := rfl
@[simp] theorem ev_oEqB {i j : Bool} : oEq (.bl i) (.bl j) g = some (.bl (i == j), g) := rfl
@[simp] theorem ev_oEqS {i j : Str} : oEq (.str i) (.str j) g = some (.bl (i == j), g) := rfl
@[simp] theorem ev_oIsN {d : D} : oIsN d .non g = some (.bl (isNon d), g) := rfl
@[simp] theorem ev_oNotN {d : D} : oNotN d .non g = some (.bl (!isNon d), g) := rfl
theorem ev_run {nN nP : Nat} {ds : List D} {b : FS} {σ' : Sg} {d : D} {g' : G} (hl : ds.length = nP) (h : b (ds.map some ++ List.replicate (nN - nP) none) g = some (.rt d, σ', g')) (hg : g'.length = g.length) : runFn false nN nP b ds g = some (d, g') := by
  unfold runFn
  rw [if_pos hl, h]
  have e : settle g.length d g' = some (d, g') := by
    unfold settle
    rw [if_pos hg]
  simpa using e
theorem ev_runK {nN nP : Nat} {ds : List D} {b : FS} {σ' : Sg} {d : D} {g' : G} (hl : ds.length = nP) (h : b (ds.map some ++ List.replicate (nN - nP) none) g = some (.rt d, σ', g')) : runFn true nN nP b ds g = some (d, g') := by
  unfold runFn
  rw [if_pos hl, h]
  rfl
end
theorem compL_mapI {t : FG} {c : FT} {e : FE} {h : D → D} (I : Sg → Prop) : ∀ (ds : List D) (σ : Sg) (g : G), I σ → (∀ d ∈ ds, ∀ σ, I σ → ∃ σ1, t d σ g = some (σ1, g) ∧ c σ1 g = some (true, g) ∧ e σ1 g = some (h d, g) ∧ I σ1) → compL t c e ds σ g = some (ds.map h, g)
  | [], _, _, _, _ => rfl
  | d :: ds, σ, g, hi, hh => by
    obtain ⟨σ1, h1, h2, h3, h4⟩ := hh d List.mem_cons_self σ hi
    simp only [compL, h1, h2, h3, Option.bind_some, if_true, compL_mapI I ds σ1 g h4 fun x hx => hh x (List.mem_cons_of_mem _ hx), List.map_cons]
theorem bools_map {α : Type} (f : α → Bool) : ∀ xs : List α, bools (xs.map fun x => D.bl (f x)) = some (xs.map f)
  | [] => rfl
  | x :: xs => by simp only [List.map_cons, bools, bools_map f xs, Option.map_some]
@[simp] theorem subS_nil {α : Type} {σ : List (Option α)} : subS [] σ = [] := rfl
@[simp] theorem subS_none {α : Type} {σ : List (Option α)} {fr : List (Option Nat)} : subS (none :: fr) σ = none :: subS fr σ := rfl
@[simp] theorem subS_some {α : Type} {σ : List (Option α)} {fr : List (Option Nat)} {i : Nat} : subS (some i :: fr) σ = (σ[i]?).join :: subS fr σ := rfl
end L3
namespace L3
open PySem PySem.Spec PyProof.Rows L2
def isBl (c : Bool) : D → Bool
  | .bl b => b == c
  | _ => false
def isLit (d1 d2 : D) : Option Bool := match d2 with
  | .non => some (isNon d1)
  | .bl c => some (isBl c d1)
  | _ => none
def oIs (d1 d2 : D) (g : G) : Option (D × G) := (isLit d1 d2).map fun b => (.bl b, g)
def oIsnt (d1 d2 : D) (g : G) : Option (D × G) := (isLit d1 d2).map fun b => (.bl (!b), g)
section
variable {X : Cx}
theorem rel_bl {K H ι d v u c} (r : Rel K H ι d v) (rx : RelV v u) : (u == Value.bool c) = isBl c d ∧ PySem.plainIs u (.bool c) = true := by
  cases d with
  | non => simp only [Rel] at r; subst r; cases rx; exact ⟨rfl, rfl⟩
  | bl b => simp only [Rel] at r; subst r; cases rx; exact ⟨by cases b <;> cases c <;> rfl, rfl⟩
  | int _ => simp only [Rel] at r; subst r; obtain ⟨t, rfl⟩ := rx; exact ⟨rfl, rfl⟩
  | str _ => simp only [Rel] at r; subst r; obtain ⟨t, rfl⟩ := rx; exact ⟨rfl, rfl⟩
  | tup _ => simp only [Rel] at r; obtain ⟨a, vs, rfl, _⟩ := r; cases rx; exact ⟨rfl, rfl⟩
  | lst _ => simp only [Rel] at r; obtain ⟨a, vs, rfl, _⟩ := r; cases rx; exact ⟨rfl, rfl⟩
  | edc => simp only [Rel] at r; obtain ⟨a, rfl, _⟩ := r; cases rx; exact ⟨rfl, rfl⟩
  | ref _ => simp only [Rel] at r; obtain ⟨a, rfl, _⟩ := r; cases rx; exact ⟨rfl, rfl⟩
theorem od_is : OpR X (compareOp .Is) (rD2 X.K oIs) := by
  intro pins s σ H x y v u Q I rx ry q
  obtain ⟨ι, g, d1, d2, d, g', G0, r1, r2, q, p⟩ := q
  cases d2 with
  | non => exact od_isN pins s σ H x y v u Q I rx ry ⟨ι, g, d1, .non, d, g', G0, r1, r2, q, p⟩
  | bl c =>
    simp only [Rel] at r2; subst r2; cases ry
    simp only [oIs, isLit, Option.map_some] at q
    cases q
    obtain ⟨e, z⟩ := rel_bl (c := c) r1 rx
    refine wpAny_is_plain z ?_
    rw [e]
    exact ⟨.bl _, H, I, rfl, p H ι _ Ext.refl G0 (by simp [Rel])⟩
  | _ => cases q
theorem od_isnt : OpR X (compareOp .IsNot) (rD2 X.K oIsnt) := by
  intro pins s σ H x y v u Q I rx ry q
  obtain ⟨ι, g, d1, d2, d, g', G0, r1, r2, q, p⟩ := q
  cases d2 with
  | non => exact od_notN pins s σ H x y v u Q I rx ry ⟨ι, g, d1, .non, d, g', G0, r1, r2, q, p⟩
  | bl c =>
    simp only [Rel] at r2; subst r2; cases ry
    simp only [oIsnt, isLit, Option.map_some] at q
    cases q
    obtain ⟨e, z⟩ := rel_bl (c := c) r1 rx
    refine wpAny_isNot_plain z ?_
    rw [e]
    exact ⟨.bl _, H, I, rfl, p H ι _ Ext.refl G0 (by simp [Rel])⟩
  | _ => cases q
end
@[simp] theorem ev_oIs {d1 d2 : D} {g : G} : oIs d1 d2 g = (isLit d1 d2).map fun b => (.bl b, g) := rfl
@[simp] theorem ev_oIsnt {d1 d2 : D} {g : G} : oIsnt d1 d2 g = (isLit d1 d2).map fun b => (.bl (!b), g) := rfl
@[simp] theorem ev_isLitN {d1 : D} : isLit d1 .non = some (isNon d1) := rfl
@[simp] theorem ev_isLitB {d : D} {c : Bool} : isLit d (.bl c) = some (isBl c d) := rfl
@[simp] theorem ev_isBl {b c : Bool} : isBl c (.bl b) = (b == c) := rfl
end L3
namespace L3
open PySem PySem.Spec PyProof.Rows L2
def Ix.none (ι : Ix) : Ix := ⟨[], ι.ix ++ ι.hd⟩
mutual
theorem Rel.toN {K H ι} : ∀ (d : D) {v : V}, noR 0 d = true → Rel K H ι d v → Rel K H (Ix.none ι) d v
  | .non, v, _, h => by simpa [Rel] using h
  | .bl _, v, _, h => by simpa [Rel] using h
  | .int _, v, _, h => by simpa [Rel] using h
  | .str _, v, _, h => by simpa [Rel] using h
  | .tup xs, v, z, h => by
    simp only [Rel] at h ⊢
    obtain ⟨a, vs, e1, hq, hr⟩ := h
    refine ⟨a, vs, e1, ?_, RelL.toN xs z hr⟩
    rcases hq with ⟨hq, hn⟩ | hq
    · exact .inl ⟨hq, by simp [Ix.none]⟩
    · exact .inr hq
  | .lst xs, v, z, h => by
    simp only [Rel] at h ⊢
    obtain ⟨a, vs, e1, hq, hr⟩ := h
    refine ⟨a, vs, e1, ?_, RelL.toN xs z hr⟩
    rcases hq with ⟨hq, hn, hh⟩ | hq
    · exact .inl ⟨hq, by simp [Ix.none], fun m => (List.mem_append.mp m).elim hn hh⟩
    · exact .inr hq
  | .edc, v, _, h => by
    simp only [Rel] at h ⊢
    obtain ⟨a, e1, hq, hr⟩ := h
    exact ⟨a, e1, hq, by simp [Ix.none]⟩
  | .ref k, v, z, h => by simp [noR] at z
theorem RelL.toN {K H ι} : ∀ (ds : List D) {vs : List V}, noRs 0 ds = true → RelL K H ι ds vs → RelL K H (Ix.none ι) ds vs
  | [], vs, _, h => by simpa [RelL] using h
  | d :: ds, vs, z, h => by
    simp only [RelL] at h ⊢
    simp only [noRs, Bool.and_eq_true] at z
    obtain ⟨v, vr, e1, hq, hr⟩ := h
    exact ⟨v, vr, e1, Rel.toN d z.1 hq, RelL.toN ds z.2 hr⟩
end
mutual
theorem Rel.ofN {K H ι ι'} (hh : ι'.hd = ι.ix ++ ι.hd) (hl : ∀ a ∈ ι.ix, ∃ vs, H a = some (.lst vs)) : ∀ (d : D) {v : V}, noR 0 d = true → Rel K H ι' d v → Rel K H ι d v
  | .non, v, _, h => by simpa [Rel] using h
  | .bl _, v, _, h => by simpa [Rel] using h
  | .int _, v, _, h => by simpa [Rel] using h
  | .str _, v, _, h => by simpa [Rel] using h
  | .tup xs, v, z, h => by
    simp only [Rel] at h ⊢
    obtain ⟨a, vs, e1, hq, hr⟩ := h
    refine ⟨a, vs, e1, ?_, RelL.ofN hh hl xs z hr⟩
    rcases hq with ⟨hq, hn⟩ | hq
    · refine .inl ⟨hq, fun m => ?_⟩
      obtain ⟨us, e⟩ := hl a m
      rcases hq with hq | ⟨o, hq⟩ <;> rw [e] at hq <;> cases hq
    · exact .inr hq
  | .lst xs, v, z, h => by
    simp only [Rel] at h ⊢
    obtain ⟨a, vs, e1, hq, hr⟩ := h
    refine ⟨a, vs, e1, ?_, RelL.ofN hh hl xs z hr⟩
    rcases hq with ⟨hq, hn, hk⟩ | hq
    · rw [hh] at hk
      exact .inl ⟨hq, fun m => hk (List.mem_append.mpr (.inl m)), fun m => hk (List.mem_append.mpr (.inr m))⟩
    · exact .inr hq
  | .edc, v, _, h => by
    simp only [Rel] at h ⊢
    obtain ⟨a, e1, hq, hr⟩ := h
    refine ⟨a, e1, hq, fun m => ?_⟩
    obtain ⟨us, e⟩ := hl a m
    rw [e] at hq; cases hq
  | .ref k, v, z, h => by simp [noR] at z
theorem RelL.ofN {K H ι ι'} (hh : ι'.hd = ι.ix ++ ι.hd) (hl : ∀ a ∈ ι.ix, ∃ vs, H a = some (.lst vs)) : ∀ (ds : List D) {vs : List V}, noRs 0 ds = true → RelL K H ι' ds vs → RelL K H ι ds vs
  | [], vs, _, h => by simpa [RelL] using h
  | d :: ds, vs, z, h => by
    simp only [RelL] at h ⊢
    simp only [noRs, Bool.and_eq_true] at z
    obtain ⟨v, vr, e1, hq, hr⟩ := h
    exact ⟨v, vr, e1, Rel.ofN hh hl d z.1 hq, RelL.ofN hh hl ds z.2 hr⟩
end
theorem RelG.lst {K H ι g} (h : RelG K H ι g) {a : Addr} (ha : a ∈ ι.ix) : ∃ vs, H a = some (.lst vs) := by
  obtain ⟨i, hi, e⟩ := List.mem_iff_getElem.mp ha
  have hg : i < g.length := by rw [← h.len]; exact hi
  obtain ⟨b, vs, hb, h1, _⟩ := h.at_ i _ (List.getElem?_eq_getElem hg)
  rw [List.getElem?_eq_getElem hi, e] at hb
  cases hb
  exact ⟨vs, h1⟩
def pureFn (fn : Fn) : Fn := fun ds g => if noRs 0 ds = true then (fn ds []).bind fun r => if noR 0 r.1 = true then some (r.1, g) else none else none
theorem pureFn_some {fn : Fn} {ds g d g'} (h : pureFn fn ds g = some (d, g')) : noRs 0 ds = true ∧ (∃ gx, fn ds [] = some (d, gx)) ∧ noR 0 d = true ∧ g' = g := by
  unfold pureFn at h
  split at h
  · rename_i z
    obtain ⟨⟨d1, g1⟩, h1, h⟩ := bind_some h
    split at h
    · rename_i z2
      cases h
      exact ⟨z, ⟨g1, h1⟩, z2, rfl⟩
    · cases h
  · cases h
theorem fn_pure {P : Program} {w : World} {K : PySem.W.Frag} {mg : Str → Option Value} {base : Heap} {k n f fd ps} {fn : Fn} (F : FnOk P w K mg base CX0 k f fd ps (spD K n fn)) : FnOk P w K mg base CX0 k f fd ps (spD K n (pureFn fn)) :=
  FnOk.imp F fun vs H Q E ⟨hl, ι, g, ds, d, g', G0, r, h, p⟩ => by
    obtain ⟨z, ⟨gx, hx⟩, z2, rfl⟩ := pureFn_some h
    refine ⟨hl, Ix.none ι, [], ds, d, gx, ⟨List.nodup_nil, rfl, fun b hb => ⟨by simp [Ix.none], ?_⟩, fun i xs q => by simp at q⟩, RelL.toN ds z r, hx, fun H' ι' v e G1 rv => ?_⟩
    · rcases List.mem_append.mp hb with m | m
      · exact G0.trk m
      · exact (G0.hid b m).2
    · have same : ∀ a ∈ ι.ix, H' a = H a := fun a ha => by
        obtain ⟨vs, ev⟩ := G0.lst ha
        rw [ev]
        exact e.same a _ ev (by simp [Ix.none])
      have e0 : Ext H ι H' ι := ⟨fun a o q _ => e.same a o q (by simp [Ix.none]), e.there, ⟨[], by simp, fun _ q => by simp at q⟩, rfl⟩
      refine p H' ι v e0 (G0.ext e0 same) (Rel.ofN e.hid (fun a ha => ?_) d z2 rv)
      obtain ⟨vs, ev⟩ := G0.lst ha
      exact ⟨vs, by rw [same a ha]; exact ev⟩
theorem pureFn_len {fn : Fn} {n : Nat} (h : ∀ ds g r, fn ds g = some r → ds.length = n) : ∀ ds g r, pureFn fn ds g = some r → ds.length = n := fun ds g r q => by
  obtain ⟨_, ⟨gx, hx⟩, _⟩ := pureFn_some (d := r.1) (g' := r.2) q
  exact h _ _ _ hx
end L3
namespace L3
open PySem L2
def wp {α : Type} (o : Option α) (Q : α → Prop) : Prop := ∃ a, o = some a ∧ Q a
section
variable {α β : Type} {o : Option α} {Q R : α → Prop}
@[simp] theorem wp_some {a : α} : wp (some a) Q = Q a := by simp [wp]
@[simp] theorem wp_none : wp (none : Option α) Q = False := by simp [wp]
@[simp] theorem wp_bind {f : α → Option β} {Q : β → Prop} : wp (o.bind f) Q = wp o fun a => wp (f a) Q := by
  cases o <;> simp [wp]
@[simp] theorem wp_map {f : α → β} {Q : β → Prop} : wp (o.map f) Q = wp o fun a => Q (f a) := by
  cases o <;> simp [wp]
theorem wp_mono (h : wp o R) (i : ∀ a, R a → Q a) : wp o Q := let ⟨a, e, r⟩ := h; ⟨a, e, i a r⟩
end
@[simp] theorem wp_asB {o : Option (D × G)} {Q : Bool × G → Prop} : wp (asB o) Q = wp o fun r => ∃ b, r.1 = .bl b ∧ Q (b, r.2) := by
  cases o with
  | none => simp [asB]
  | some r =>
    obtain ⟨d, g⟩ := r
    cases d with
    | bl b => cases b <;> simp [asB]
    | _ => simp [asB]
section
variable {σ : Sg} {g : G} {fa : FE} {fl fh : FO}
@[simp] theorem ev_oAddT {xs ys : List D} : oAdd (.tup xs) (.tup ys) g = if szOk (xs.length + ys.length) = true then some (.tup (xs ++ ys), g) else none := rfl
@[simp] theorem ev_oAddL {xs ys : List D} : oAdd (.lst xs) (.lst ys) g = if szOk (xs.length + ys.length) = true then some (.lst (xs ++ ys), g) else none := rfl
@[simp] theorem ev_oAddS {x y : Str} : oAdd (.str x) (.str y) g = if szOk (x.length + y.length) = true then some (.str (x ++ y), g) else none := rfl
@[simp] theorem ev_fNoP : fNoP σ g = some (none, g) := rfl
@[simp] theorem ev_fPart : fPart fa σ g = (fa σ g).bind fun r => match r.1 with | .int i => some (some i, r.2) | _ => none := rfl
theorem sIx_to {n a : Nat} (h : a ≤ n) : HT.sIx n n (some (a : Int)) = a := by rw [HT.sIx_nat]; omega
theorem sIx_from {n a : Nat} (h : a ≤ n) : HT.sIx n 0 (some (a : Int)) = a := by rw [HT.sIx_nat]; omega
end
theorem wp_forL {t : FG} {b : FS} {Q : F × Sg × G → Prop} (I : Nat → Sg → G → Prop) : ∀ (ds : List D) (i : Nat) (σ : Sg) (g : G), I i σ g →
    (∀ (j : Nat) (d : D) σ g, ds[j]? = some d → I (i + j) σ g → wp (t d σ g) fun q => wp (b q.1 q.2) fun r => match r.1 with
      | .nx => I (i + j + 1) r.2.1 r.2.2
      | .ct => I (i + j + 1) r.2.1 r.2.2
      | .bk => Q (.nx, r.2.1, r.2.2)
      | .rt d => Q (.rt d, r.2.1, r.2.2)) → (∀ σ g, I (i + ds.length) σ g → Q (.nx, σ, g)) → wp (forL t b ds σ g) Q
  | [], i, σ, g, hi, _, he => by simp only [forL, wp_some]; exact he σ g hi
  | d :: ds, i, σ, g, hi, hs, he => by
    simp only [forL, wp_bind]
    refine wp_mono (hs 0 d σ g rfl hi) fun q hq => wp_mono hq fun r hr => ?_
    have go : I (i + 0 + 1) r.2.1 r.2.2 → wp (forL t b ds r.2.1 r.2.2) Q := fun z =>
      wp_forL I ds (i + 1) _ _ z (fun j d σ g e h => by
        have q := hs (j + 1) d σ g (by simpa using e) (by rw [show i + (j + 1) = i + 1 + j by omega]; exact h)
        rw [show i + (j + 1) + 1 = i + 1 + j + 1 by omega] at q
        exact q) fun σ g h => he σ g (by rw [List.length_cons, show i + (ds.length + 1) = i + 1 + ds.length by omega]; exact h)
    obtain ⟨r1, r2⟩ := r
    cases r1 with
    | nx => exact go hr
    | ct => exact go hr
    | bk => simp only [wp_some]; exact hr
    | rt d => simp only [wp_some]; exact hr
theorem wp_compL {t : FG} {c : FT} {e : FE} {Q : List D × G → Prop} (I : Nat → List D → Sg → G → Prop) : ∀ (ds : List D) (i : Nat) (σ : Sg) (g : G) (acc : List D), I i acc σ g →
    (∀ (j : Nat) (d : D) acc σ g, ds[j]? = some d → I (i + j) acc σ g → wp (t d σ g) fun q => wp (c q.1 q.2) fun k => if k.1 = true then wp (e q.1 k.2) fun r => I (i + j + 1) (acc ++ [r.1]) q.1 r.2 else I (i + j + 1) acc q.1 k.2) →
    (∀ xs σ g, I (i + ds.length) (acc ++ xs) σ g → Q (xs, g)) → wp (compL t c e ds σ g) Q
  | [], i, σ, g, acc, hi, _, he => by simp only [compL, wp_some]; exact he [] σ g (by simpa using hi)
  | d :: ds, i, σ, g, acc, hi, hs, he => by
    simp only [compL, wp_bind]
    refine wp_mono (hs 0 d acc σ g rfl hi) fun q hq => wp_mono hq fun k hk => ?_
    have go : ∀ (a : List D) (s : Sg) (h : G) (R : List D × G → Prop), I (i + 1) a s h → (∀ xs σ g, I (i + 1 + ds.length) (a ++ xs) σ g → R (xs, g)) → wp (compL t c e ds s h) R := fun a s h R z he =>
      wp_compL I ds (i + 1) s h a z (fun j d acc σ g e h => by
        have q := hs (j + 1) d acc σ g (by simpa using e) (by rw [show i + (j + 1) = i + 1 + j by omega]; exact h)
        rw [show i + (j + 1) + 1 = i + 1 + j + 1 by omega] at q
        exact q) he
    have hl : i + (d :: ds).length = i + 1 + ds.length := by rw [List.length_cons]; omega
    rw [hl] at he
    by_cases hc : k.1 = true
    · rw [if_pos hc] at hk ⊢
      simp only [wp_bind]
      refine wp_mono hk fun r hr => ?_
      refine go (acc ++ [r.1]) q.1 r.2 _ hr fun xs σ g h => ?_
      simp only [wp_some]
      exact he (r.1 :: xs) σ g (by simpa using h)
    · rw [if_neg hc] at hk ⊢
      exact go acc q.1 k.2 _ hk he
theorem wp_run {nN nP : Nat} {b : FS} {ds : List D} {g : G} {Q : D × G → Prop} (hl : ds.length = nP) (h : wp (b (ds.map some ++ List.replicate (nN - nP) none) g) fun r => match r.1 with
    | .rt d => r.2.2.length = g.length ∧ Q (d, r.2.2)
    | .nx => r.2.2.length = g.length ∧ Q (.non, r.2.2)
    | _ => False) : wp (runFn false nN nP b ds g) Q := by
  obtain ⟨⟨r, σ, g'⟩, e, q⟩ := h
  unfold runFn
  rw [if_pos hl, e]
  cases r with
  | rt d =>
    obtain ⟨q1, q2⟩ := q
    dsimp only at q1 q2
    refine ⟨_, ?_, q2⟩
    simp [settle, q1]
  | nx =>
    obtain ⟨q1, q2⟩ := q
    dsimp only at q1 q2
    refine ⟨_, ?_, q2⟩
    simp [settle, q1]
  | bk => exact q.elim
  | ct => exact q.elim
theorem wp_runS {nN nP : Nat} {b : FS} {ds : List D} {g : G} {Q : D × G → Prop} (hl : ds.length = nP) (h : wp (b (ds.map some ++ List.replicate (nN - nP) none) g) fun r => match r.1 with
    | .rt d => noR g.length d = true ∧ (r.2.2.take g.length).all (noRs g.length) = true ∧ g.length ≤ r.2.2.length ∧ Q (d, r.2.2.take g.length)
    | .nx => (r.2.2.take g.length).all (noRs g.length) = true ∧ g.length ≤ r.2.2.length ∧ Q (.non, r.2.2.take g.length)
    | _ => False) : wp (runFn false nN nP b ds g) Q := by
  obtain ⟨⟨r, σ, g'⟩, e, q⟩ := h
  unfold runFn
  rw [if_pos hl, e]
  have fin : ∀ d, noR g.length d = true → (g'.take g.length).all (noRs g.length) = true → g.length ≤ g'.length → Q (d, g'.take g.length) → wp (settle g.length d g') Q := fun d z1 z2 z3 z4 => by
    by_cases hg : g'.length = g.length
    · rw [List.take_of_length_le (by omega)] at z4
      exact ⟨_, by unfold settle; rw [if_pos hg], z4⟩
    · refine ⟨_, ?_, z4⟩
      unfold settle
      rw [if_neg hg, if_pos z2]
      cases d with
      | ref k =>
        have z : k < g.length := by simpa [noR] using z1
        simp only [if_pos z]
      | _ => simp only [if_pos z1]
  cases r with
  | rt d =>
    obtain ⟨q1, q2, q3, q4⟩ := q
    exact fin d q1 q2 q3 q4
  | nx =>
    obtain ⟨q2, q3, q4⟩ := q
    exact fin .non rfl q2 q3 q4
  | bk => exact q.elim
  | ct => exact q.elim
theorem pure_eq {fn : Fn} {ds : List D} {d : D} {gx : G} (h1 : noRs 0 ds = true) (h : fn ds [] = some (d, gx)) (h2 : noR 0 d = true) (g : G) : pureFn fn ds g = some (d, g) := by
  unfold pureFn
  rw [if_pos h1, h]
  exact if_pos h2
end L3
namespace L3
open PySem PySem.Spec PyProof.Rows L2
open SeqAt
theorem wpAny_forIn_rng {M : Model} {A : Around} {E : Value → Shared → Prop} {s : Shared} {β : Type} (f : Nat → β → Sem (ForInStep β)) (I : List Nat → β → Shared → Prop) (Q : β → Shared → Prop) {lo hi : Nat} {b : β}
    (turn : ∀ x rest b s, I (x :: rest) b s → wpAny M A (f x b) (fun r s' => match r with | .yield b' => I rest b' s' | .done b' => Q b' s') E s)
    (fin : ∀ b s, I [] b s → Q b s) (h : I (List.range' lo (hi - lo)) b s) : wpAny M A (forIn [lo:hi] b f) Q E s := by
  rw [Std.Legacy.Range.forIn_eq_forIn_range']
  refine wpAny_forIn_list f I Q turn fin _ b ?_
  simpa [Std.Legacy.Range.size] using h
theorem tuple_indexAt (l : Addr) (items : Array Value) (n : Nat) (dd : Option Addr) (sl : Array (Option Value)) (x : Value) (e : Value → Bool) (j : Nat) (hj : j < items.size)
    (hit : e items[j] = true) (hno : ∀ m (hm : m < items.size), m < j → e items[m] = false) :
    Meets (Builtin.«tuple.index» ⟨[.ref l, x], []⟩)
      (fun A R s => s.heap.get? l = some { cls := .type "tuple", dict := dd, data := .seq items n, slots := sl } ∧ (∀ y, y ∈ items → EqAt A.in1 s y x (e y)) ∧ R (.ok (.ret (.int j s.toks))) { s with toks := s.toks + 1 }) :=
  .of_wp fun prog w A R s h => by
    obtain ⟨hp, g, d, tk, os⟩ := s; obtain ⟨hl, he, h⟩ := h
    wp_walk using wpAny_loadPart' hl, wpAny_forIn_rng _ (fun rest b s' => b.1 = none ∧ s' = ⟨hp, g, d, tk, os⟩ ∧ ∃ i, rest = List.range' i (items.size - i) ∧ i ≤ j) _
    case turn =>
      rintro y rest b s' ⟨hb, rfl, i, hr, hij⟩
      have hlt : i < items.size := by omega
      have e1 : List.range' i (items.size - i) = i :: List.range' (i + 1) (items.size - (i + 1)) := by
        rw [show items.size - i = (items.size - (i + 1)) + 1 by omega, List.range'_succ]
      rw [e1] at hr
      injection hr with h1 h2
      subst h1 h2
      have hg : items[y]? = some items[y] := by simp [hlt]
      rw [hg]
      refine wpAny_bind (he _ (Array.getElem_mem hlt) prog w _ _ ?_)
      by_cases hy : y = j
      · subst hy
        rw [hit]
        wp_walk
        exact ⟨_, rfl, h⟩
      · rw [hno y hlt (by omega)]
        wp_walk
        exact ⟨rfl, rfl, y + 1, rfl, by omega⟩
    case fin =>
      rintro ⟨b1, b2⟩ s' ⟨hb, rfl, i, hr, hij⟩
      have : (List.range' i (items.size - i)).length = 0 := by rw [← hr]; rfl
      rw [List.length_range'] at this
      omega
    case h => exact ⟨rfl, rfl, 0, by simp, Nat.zero_le _⟩
def flt : D → Bool
  | .non => true
  | .bl _ => true
  | .int _ => true
  | .str _ => true
  | _ => false
def toV : D → V
  | .bl b => .bl b
  | .int i => .int i
  | .str x => .str x
  | _ => .non
theorem flt_rel {K H ι d v} (h : flt d = true) (r : Rel K H ι d v) : v = toV d ∧ flatV v = true := by
  cases d with
  | non => simp only [Rel] at r; subst r; exact ⟨rfl, rfl⟩
  | bl _ => simp only [Rel] at r; subst r; exact ⟨rfl, rfl⟩
  | int _ => simp only [Rel] at r; subst r; exact ⟨rfl, rfl⟩
  | str _ => simp only [Rel] at r; subst r; exact ⟨rfl, rfl⟩
  | _ => cases h
theorem rel_flt {K H ι d} (h : flt d = true) : Rel K H ι d (toV d) := by
  cases d with
  | non => simp [Rel, toV]
  | bl _ => simp [Rel, toV]
  | int _ => simp [Rel, toV]
  | str _ => simp [Rel, toV]
  | _ => cases h
theorem flt_rels {K H ι} : ∀ {xs : List D} {vs : List V}, xs.all flt = true → RelL K H ι xs vs → vs = xs.map toV ∧ vs.all flatV = true
  | [], vs, _, r => by simp only [RelL] at r; subst r; exact ⟨rfl, rfl⟩
  | d :: xs, vs, h, r => by
    simp only [RelL] at r
    obtain ⟨v, vr, rfl, r1, r2⟩ := r
    rw [List.all_cons, Bool.and_eq_true] at h
    obtain ⟨e1, f1⟩ := flt_rel h.1 r1
    obtain ⟨e2, f2⟩ := flt_rels h.2 r2
    subst e1 e2
    exact ⟨rfl, by rw [List.all_cons, f1, f2]; rfl⟩
theorem rels_flt {K H ι} : ∀ {xs : List D}, xs.all flt = true → RelL K H ι xs (xs.map toV)
  | [], _ => by simp [RelL]
  | d :: xs, h => by
    rw [List.all_cons, Bool.and_eq_true] at h
    simp only [List.map_cons, RelL]
    exact ⟨_, _, rfl, rel_flt h.1, rels_flt h.2⟩
theorem eqV_D {a b : D} (ha : flt a = true) (hb : flt b = true) : eqV (toV a) (toV b) = eqD a b := by
  cases a <;> cases b <;> first | (simp [toV, eqV, eqD]; done) | (simp [flt] at ha; done) | (simp [flt] at hb; done)
def inD (d : D) (xs : List D) : Bool := xs.any fun y => eqD y d
theorem inV_D {d : D} (hd : flt d = true) : ∀ {xs : List D}, xs.all flt = true → inV (toV d) (xs.map toV) = inD d xs
  | [], _ => rfl
  | x :: xs, h => by
    rw [List.all_cons, Bool.and_eq_true] at h
    have := inV_D hd h.2
    unfold inV inD at this ⊢
    rw [List.map_cons, List.any_cons, List.any_cons, eqV_D h.1 hd, this]
def oIn (d1 d2 : D) (g : G) : Option (D × G) := (seqOf d2 g).bind fun xs => if (flt d1 && xs.all flt) = true then some (.bl (inD d1 xs), g) else none
section
variable {X : Cx}
theorem od_in : OpR X (compareOp .In) (rD2 X.K oIn) := by
  intro pins s σ H x y v u Q I rx ry q
  obtain ⟨ι, g, d1, d2, d, g', G0, r1, r2, q, p⟩ := q
  unfold oIn at q
  obtain ⟨xs, h1, q⟩ := bind_some q
  split at q
  · rename_i z
    rw [Bool.and_eq_true] at z
    cases q
    obtain ⟨a, vs, rfl, hq, hr⟩ := seqOf_rel G0 r2 h1
    obtain ⟨e1, f1⟩ := flt_rel z.1 r1
    obtain ⟨e2, f2⟩ := flt_rels z.2 hr
    refine op_in_seq pins s σ H x _ v u Q I rx ry ⟨a, vs, rfl, hq, f1, f2, ?_⟩
    rw [e1, e2, inV_D z.1 z.2]
    exact p H ι _ Ext.refl G0 (by simp [Rel])
  · cases q
end
def KRel (K : PySem.W.Frag) (d : D) (v : V) : Prop := (flt d = true ∧ v = toV d) ∨
  ∃ xs a o its n, d = .tup xs ∧ xs.all flt = true ∧ v = .ref a ∧ K.lookup a = some o ∧ o.cls = .type "tuple" ∧ o.dict = none ∧ o.data = .seq its n ∧ its.size ≤ sizeLine ∧ Vals (xs.map toV) its.toList
theorem KRel.rel {K H ι d v} (h : KRel K d v) : Rel K H ι d v := by
  rcases h with ⟨h, rfl⟩ | ⟨xs, a, o, its, n, rfl, hx, rfl, h1, h2, h3, h4, h5, h6⟩
  · exact rel_flt h
  · simp only [Rel]
    exact ⟨a, _, rfl, .inr ⟨o, its, n, h1, h2, h4, h5, h6⟩, rels_flt hx⟩
def EntsR (w : World) (K : PySem.W.Frag) : List DictEntry → List (Str × D) → Prop
  | [], tbl => tbl = []
  | e :: es, tbl => ∃ x d rest, tbl = (x, d) :: rest ∧ (∃ t, e.key = .str x t) ∧ e.hash = hashStr w x ∧ (∃ v, RelV v e.val ∧ KRel K d v) ∧ EntsR w K es rest
structure DctAt (w : World) (K : PySem.W.Frag) (a : Addr) (tbl : List (Str × D)) : Prop where
  ex : ∃ o es ep, K.lookup a = some o ∧ o.ExactDict ∧ o.data = .dict es ep ∧ EntsR w K es.toList tbl
  sys : (a == sysModules) = false
def tGet (tbl : List (Str × D)) (x : Str) : Option D := (tbl.find? fun p => decide (p.1 = x)).map (·.2)
theorem EntsR.keys {P : Program} {w : World} {K : PySem.W.Frag} : ∀ {es : List DictEntry} {tbl : List (Str × D)}, EntsR w K es tbl → ∀ e ∈ es, ∃ k, (mixKind P w).is k e.key = true ∧ e.hash = (mixKind P w).hash k
  | [], _, _, e, he => nomatch he
  | e0 :: es, tbl, h, e, he => by
    obtain ⟨x, d, rest, rfl, ⟨t, hk⟩, hh, _, hr⟩ := h
    rcases List.mem_cons.mp he with rfl | he
    · exact ⟨.inr x, by rw [hk]; exact mixKind_str P w x t, hh⟩
    · exact hr.keys e he
theorem is_str {P : Program} {w : World} {x y : Str} {t : Tok} : (mixKind P w).is (.inr x) (.str y t) = decide (y = x) := by
  show Value.isStrOf x (.str y t) = _
  by_cases h : y = x
  · subst h; simp [Value.isStrOf]
  · simp [Value.isStrOf, h, Ne.symm h]
theorem EntsR.find {P : Program} {w : World} {K : PySem.W.Frag} {x : Str} : ∀ {es : List DictEntry} {tbl : List (Str × D)}, EntsR w K es tbl →
    match tGet tbl x with
    | some d => ∃ u v, (es.find? fun e => (mixKind P w).is (.inr x) e.key).map (·.val) = some u ∧ RelV v u ∧ KRel K d v
    | none => (es.find? fun e => (mixKind P w).is (.inr x) e.key).map (·.val) = none
  | [], tbl, h => by
    have h' : tbl = [] := h
    subst h'
    rfl
  | e0 :: es, tbl, h => by
    obtain ⟨y, d, rest, rfl, ⟨t, hk⟩, hh, ⟨v, rv, kv⟩, hr⟩ := h
    have ih := hr.find (P := P) (x := x)
    have hi : (mixKind P w).is (.inr x) e0.key = decide (y = x) := by rw [hk]; exact is_str
    unfold tGet at ih ⊢
    rw [List.find?_cons, List.find?_cons]
    by_cases hy : y = x
    · subst hy
      simp only [decide_true, hi]
      exact ⟨_, v, rfl, rv, kv⟩
    · simp only [hy, decide_false, hi]
      exact ih
theorem DctAt.map {P : Program} {w : World} {K : PySem.W.Frag} {a : Addr} {tbl : List (Str × D)} (h : DctAt w K a tbl) {hp : Heap} (hk : K.In hp) : ∃ f, hp.MapOf (mixKind P w) a f ∧ ∀ x : Str, match tGet tbl x with
    | some d => ∃ u v, f (.inr x) = some u ∧ RelV v u ∧ KRel K d v
    | none => f (.inr x) = none := by
  obtain ⟨o, es, ep, h1, h2, h3, h4⟩ := h.ex
  refine ⟨_, ⟨o, es, ep, hk a o h1, h2, h3, fun e he => h4.keys e (by simpa using he), fun k => rfl⟩, fun x => ?_⟩
  have := h4.find (P := P) (x := x)
  unfold findBy
  rw [← Array.find?_toList]
  exact this
def fDGet (tbl : List (Str × D)) (fe : FE) : FE := fun σ g => (fe σ g).bind fun r => match r.1 with | .str x => (tGet tbl x).map fun d => (d, r.2) | _ => none
def rDct (K : PySem.W.Frag) (a : Addr) (tbl : List (Str × D)) : R2 := fun x y H Q => ∃ k d, x = .ref a ∧ y = .str k ∧ tGet tbl k = some d ∧ ∀ v, KRel K d v → Q v H
section
variable {X : Cx} {a : Addr} {tbl : List (Str × D)}
theorem ix_dct (hD : DctAt X.w X.K a tbl) : IxR X (rDct X.K a tbl) := by
  intro value slice pins s σ H x y v u Q I rx ry h hs
  obtain ⟨k, d, rfl, rfl, hd, q⟩ := h
  cases rx
  obtain ⟨f, hm, hf⟩ := hD.map (P := X.prog) I.kIn
  have hx := hf k
  rw [hd] at hx
  obtain ⟨w', v', h1, h2, h3⟩ := hx
  obtain ⟨t, rfl⟩ := ry
  exact subscriptTail_builtinR (x := w') hm.typeIs slot_dict_getitem.lookup
    (wpAny_getItem_of (k := (.inr k : Key)) (Q := fun r s' => r = w' ∧ EP X pins σ Q r s') (mixKind_str X.prog X.w k t) hm h1 ⟨rfl, v', H, I.tok _, h2, q v' h3⟩) hs
theorem de_dget {C : Str} {p pos : Pos} {e : Expr} {fe : FE} (hD : DctAt X.w X.K a tbl) (hm : X.mg C = some (.ref a)) (he : DE X e fe) (hg : Gl X C := by rfl) (hs : PlainIx e := by exact fun _ _ => rfl) (hd : (C == ("__debug__" : Str)) = false := by decide) :
    DE X (.Subscript (.Name C p) e pos) (fDGet tbl fe) := .of (
  PE.imp (pe_ix (ix_dct hD) (pe_glob (v := .ref a) hg hm rfl hd) he.un hs) fun σ H Q h => by
    obtain ⟨ι, σd, g, d, g', G0, S0, h, p⟩ := h
    obtain ⟨⟨d1, g1⟩, h1, h⟩ := bind_some h
    refine tD.bind G0 S0 h1 fun H1 ι1 v e1 G1 S1 r1 => ?_
    dsimp only at h
    cases d1 with
    | str x =>
      simp only [Rel] at r1
      subst r1
      dsimp only at h
      cases hx : tGet tbl x with
      | none => rw [hx] at h; cases h
      | some d2 =>
        rw [hx] at h
        cases h
        exact ⟨x, _, rfl, rfl, hx, fun v kv => p H1 ι1 v e1 G1 kv.rel⟩
    | _ => cases h)
def rInDct (a : Addr) (tbl : List (Str × D)) (neg : Bool) : R2 := fun x y H Q => ∃ k, x = .str k ∧ y = .ref a ∧ Q (.bl (if neg then !(tGet tbl k).isSome else (tGet tbl k).isSome)) H
theorem op_notInDct (hD : DctAt X.w X.K a tbl) : OpR X (compareOp .NotIn) (rInDct a tbl true) := by
  intro pins s σ H x y v u Q I rx ry h
  obtain ⟨k, rfl, rfl, q⟩ := h
  obtain ⟨t, rfl⟩ := rx
  cases ry
  obtain ⟨f, hm, hf⟩ := hD.map (P := X.prog) I.kIn
  refine wpAny_notIn_of (k := (.inr k : Key)) (mixKind_str X.prog X.w k t) hD.sys hm ⟨.bl _, H, I.tok _, rfl, ?_⟩
  have hx := hf k
  cases hg : tGet tbl k with
  | none => rw [hg] at hx; rw [hx]; rw [hg] at q; exact q
  | some d =>
    rw [hg] at hx
    obtain ⟨w', v', h1, _⟩ := hx
    rw [h1]; rw [hg] at q; exact q
def idxD (xs : List D) (d : D) : Option Nat := xs.findIdx? fun y => eqD y d
def fDIdx (tbl : List (Str × D)) (fe fx : FE) : FE := fun σ g => (fe σ g).bind fun r => match r.1 with
  | .str x => match tGet tbl x with
    | some (.tup xs) => (fx σ r.2).bind fun q => if (flt q.1 && xs.all flt) = true then (idxD xs q.1).map fun j => (.int j, q.2) else none
    | _ => none
  | _ => none
def rIdxK (K : PySem.W.Frag) : V → List V → Hp → VK → Prop := fun x vs H Q => ∃ xs y j, KRel K (.tup xs) x ∧ vs = [toV y] ∧ flt y = true ∧ xs.all flt = true ∧ idxD xs y = some j ∧ Q (.int j) H
theorem mt_indexK : MtR X "tuple.index" (rIdxK X.K) := by
  intro pins s σ H x vs v us Q I rx rv h
  obtain ⟨xs, y, j, hk, rfl, hy, hx, hj, q⟩ := h
  rcases hk with ⟨hk, _⟩ | ⟨xs', a, o, its, n, e0, hx', rfl, h1, h2, h3, h4, h5, h6⟩
  · cases hk
  cases e0
  cases rx
  obtain ⟨u, rfl, ru⟩ := rv.one
  have hg := I.kIn a o h1
  obtain ⟨cls, dd, data, sl⟩ := o
  simp only at h2 h3 h4
  subst h2 h3 h4
  have fy : flatV (toV y) = true := (flt_rel hy (rel_flt (K := X.K) (H := H) (ι := ⟨[], []⟩) hy)).2
  have fx : (xs.map toV).all flatV = true := (flt_rels hx (rels_flt (K := X.K) (H := H) (ι := ⟨[], []⟩) hx)).2
  unfold idxD at hj
  rw [List.findIdx?_eq_some_iff_getElem] at hj
  obtain ⟨hlt, hit, hno⟩ := hj
  have hlen : (xs.map toV).length = its.toList.length := h6.length
  rw [List.length_map] at hlen
  have hsz : j < its.size := by rw [← Array.length_toList]; omega
  have item : ∀ m (hm : m < xs.length) (hm' : m < its.size), eqU (toV y) its[m] = eqD xs[m] y := fun m hm hm' => by
    obtain ⟨u', e', r'⟩ := h6.get (i := m) (x := toV xs[m]) (by rw [List.getElem?_map, List.getElem?_eq_getElem hm]; rfl)
    rw [Array.getElem?_toList, Array.getElem?_eq_getElem hm'] at e'
    cases e'
    have fm : flt xs[m] = true := List.all_eq_true.mp hx _ (List.getElem_mem hm)
    rw [eqU_of r' (flt_rel fm (rel_flt (K := X.K) (H := H) (ι := ⟨[], []⟩) fm)).2, eqV_D fm hy]
  refine call_meets F.slot_tuple_index ⟨_, hg, rfl⟩ F.entry_tuple_index (F.args_tuple_index_2 _ _) (tuple_indexAt a its n none sl u (eqU (toV y)) j hsz (by rw [item j hlt hsz]; exact hit) (fun m hm hmj => by
    have hm2 : m < xs.length := by omega
    rw [item m hm2 hm]
    simpa using hno m hmj)) ⟨hg, fun z hz => mem_eqAt ru fy h6 fx z (by simpa using hz), ?_⟩
  exact ⟨.int j, H, I.tok _, ⟨_, rfl⟩, q⟩
theorem de_didx {C : Str} {p pos apos cpos : Pos} {e x : Expr} {fe fx : FE} (hD : DctAt X.w X.K a tbl) (hm : X.mg C = some (.ref a)) (he : DE X e fe) (hx : DE X x fx) (hg : Gl X C := by rfl) (hs : PlainIx e := by exact fun _ _ => rfl) (hd : (C == ("__debug__" : Str)) = false := by decide)
    (hbase : attributeBase (.Subscript (.Name C p) e pos) "index" X.env (eval (.Subscript (.Name C p) e pos) X.env) = eval (.Subscript (.Name C p) e pos) X.env := by rfl)
    (hfew : ((backTo cpos (starEach [x] X.env)).all (fun x => !x.1) && (backToKw cpos (keywordEach [] X.env)).all (fun x => x.1.isSome)
      && decide ([x].length + ([] : List Keyword).length + (if ([] : List Keyword).isEmpty then 0 else 1) < 30)) = true := by rfl)
    (hline : (apos.endLine == cpos.line) = true := by rfl) (hst : starEach [x] X.env = (false, eval x X.env) :: starEach [] X.env := by rfl) :
    DE X (.Call (.Attribute (.Subscript (.Name C p) e pos) "index" apos) [x] [] cpos) (fDIdx tbl fe fx) := .of (
  PE.imp (pe_bm PySem.F.plainAttrs_tuple PySem.F.slot_tuple_index PySem.F.type_tuple_index mt_indexK (pe_ix (ix_dct hD) (pe_glob (v := .ref a) hg hm rfl hd) he.un hs) (pa_cons hx.un pa_nil hst) hbase hfew hline hst (by rfl)) fun σ H Q h => by
    obtain ⟨ι, σd, g, d, g', G0, S0, h, p⟩ := h
    obtain ⟨⟨d1, g1⟩, h1, h⟩ := bind_some h
    refine tD.bind G0 S0 h1 fun H1 ι1 v e1 G1 S1 r1 => ?_
    cases d1 with
    | str k =>
      simp only [Rel] at r1
      subst r1
      dsimp only at h
      cases hk : tGet tbl k with
      | none => rw [hk] at h; cases h
      | some d2 =>
        rw [hk] at h
        cases d2 with
        | tup xs =>
          dsimp only at h
          obtain ⟨⟨d3, g3⟩, h3, h⟩ := bind_some h
          refine ⟨k, _, rfl, rfl, hk, fun v kv => ⟨?_, ?_⟩⟩
          · rcases kv with ⟨kv, _⟩ | ⟨xs', a', o, its, n, e0, hx', rfl, q1, q2, q3, q4, q5, q6⟩
            · cases kv
            · exact .inr (.inl ⟨rfl, o, q1, q2, q3⟩)
          · refine tD.bind G1 S1 h3 fun H2 ι2 u e2 G2 S2 r2 => ?_
            dsimp only at h
            split at h
            · rename_i z
              rw [Bool.and_eq_true] at z
              cases hj : idxD xs d3 with
              | none => rw [hj] at h; cases h
              | some j =>
                rw [hj] at h
                cases h
                refine ⟨xs, d3, j, kv, by rw [(flt_rel z.1 r2).1], z.1, z.2, hj, p H2 ι2 _ (e1.trans e2) G2 (by simp [Rel])⟩
            · cases h
        | _ => cases h
    | _ => cases h)
end
end L3
namespace L3
open PySem PySem.Spec PyProof.Rows L2
def fApp (fo fx : FE) : FE := fun σ g => (fo σ g).bind fun r => match r.1 with
  | .ref n => if (r.2[n]?).isSome = true then (fx σ r.2).bind fun q => match q.2[n]? with
      | some xs => if szOk (xs.length + 1) = true then some (.non, q.2.set n (xs ++ [q.1])) else none
      | none => none
    else none
  | _ => none
section
variable {X : Cx}
variable {o x : Expr} {fo fx : FE} {apos cpos : Pos}
theorem de_append (ho : DE X o fo) (hx : DE X x fx) (hbase : attributeBase o "append" X.env (eval o X.env) = eval o X.env := by rfl)
    (hfew : ((backTo cpos (starEach [x] X.env)).all (fun x => !x.1) && (backToKw cpos (keywordEach [] X.env)).all (fun x => x.1.isSome)
      && decide ([x].length + ([] : List Keyword).length + (if ([] : List Keyword).isEmpty then 0 else 1) < 30)) = true := by rfl)
    (hline : (apos.endLine == cpos.line) = true := by rfl) (hst : starEach [x] X.env = (false, eval x X.env) :: starEach [] X.env := by rfl) :
    DE X (.Call (.Attribute o "append" apos) [x] [] cpos) (fApp fo fx) := .of (
  PE.imp (pe_bm PySem.F.plainAttrs_list PySem.F.slot_list_append PySem.F.type_list_append mt_append ho.un (pa_cons hx.un pa_nil hst) hbase hfew hline hst (by rfl)) fun σ H Q h => by
    obtain ⟨ι, σd, g, d, g', G0, S0, h, p⟩ := h
    obtain ⟨⟨d1, g1⟩, h1, h⟩ := bind_some h
    refine tD.bind G0 S0 h1 fun H1 ι1 v e1 G1 S1 r1 => ?_
    cases d1 with
    | ref n =>
      simp only [Rel] at r1
      obtain ⟨a, rfl, ha⟩ := r1
      dsimp only at h
      split at h
      · rename_i z
        obtain ⟨ys, hys⟩ := Option.isSome_iff_exists.mp z
        obtain ⟨ws, hw, _⟩ := G1.at hys ha
        refine ⟨.inl ⟨rfl, ws, .of hw⟩, ?_⟩
        obtain ⟨⟨d3, g3⟩, h3, h⟩ := bind_some h
        refine tD.bind G1 S1 h3 fun H2 ι2 u e2 G2 S2 r2 => ?_
        dsimp only at h
        cases hx' : g3[n]? with
        | none => rw [hx'] at h; cases h
        | some xs =>
          rw [hx'] at h
          dsimp only at h
          split at h
          · rename_i z2
            cases h
            have ha2 := e2.at ha
            obtain ⟨vs, hv, hr⟩ := G2.at hx' ha2
            refine ⟨a, vs, u, rfl, rfl, hv, ?_, ?_⟩
            · have := szOk.le z2
              rw [← hr.length]; omega
            · exact p _ ι2 _ ((e1.trans e2).trans (Ext.put ha2 hv)) (G2.put ha2 hv (RelL.append hr (by simp only [RelL]; exact ⟨_, _, rfl, r2, rfl⟩))) (by simp [Rel])
          · cases h
      · cases h
    | _ => cases h)
end
end L3
namespace L3
open PySem PySem.Spec PyProof.Rows L2
def PrR : List Str → List V → List (Value × Value) → Prop
  | [], xs, vs => xs = [] ∧ vs = []
  | k :: ks, xs, vs => ∃ x xr t u vr, xs = x :: xr ∧ vs = (.str k t, u) :: vr ∧ RelV x u ∧ PrR ks xr vr
structure DPr (X : Cx) (keys : List (Option Expr)) (vals : List Expr) (pos : Pos) (ks : List Str) (fr : FA) : Prop where
  all : keys.all (·.isSome) = true
  len : keys.length = vals.length
  len2 : keys.length = ks.length
  un : ∀ (pins : List (Addr × Obj)) (s : Shared) (σ : L2.St) (H : Hp) (Q : List V → Hp → Prop), Inv X pins σ H s → tDA X.K fr σ H Q →
    wpAny (model X.prog X.w) X.A (evalPairs (pairTrees keys vals X.env pos)) (fun vs s1 => ∃ xs H1, Inv X pins σ H1 s1 ∧ PrR ks xs vs ∧ Q xs H1) X.xe s
section
variable {X : Cx} {pos : Pos}
theorem dpr_nil : DPr X [] [] pos [] fNil := ⟨rfl, rfl, rfl, fun pins s σ H Q I h => by
  obtain ⟨ι, σd, g, ds, g', G0, S0, h, p⟩ := h
  cases h
  exact pairTrees_nil_walk ⟨[], H, I, ⟨rfl, rfl⟩, p H ι [] Ext.refl G0 (by simp [RelL])⟩⟩
theorem dpr_cons {k : Str} {j : Nat} {kp : Pos} {v : Expr} {keys : List (Option Expr)} {vals : List Expr} {ks : List Str} {fa : FE} {fr : FA} (hv : DE X v fa) (hr : DPr X keys vals pos ks fr) :
    DPr X (some (.Constant (.str k) j kp) :: keys) (v :: vals) pos (k :: ks) (fCons fa fr) := ⟨by simp [hr.all], by simp [hr.len], by simp [hr.len2], fun pins s σ H Q I h => by
  obtain ⟨ι, σd, g, ds, g', G0, S0, h, p⟩ := h
  obtain ⟨⟨d1, g1⟩, h1, h⟩ := bind_some h
  obtain ⟨⟨d2, g2⟩, h2, h⟩ := bind_some h
  cases h
  refine pairTrees_cons_walk ?_
  refine thn ((pe_str (X := X)) pins s σ H (fun x H1 => x = .str k ∧ H1 = H) I ⟨rfl, rfl⟩) fun kv s1 ⟨x, H1, I1, r1, e1, e2⟩ => ?_
  subst e1 e2
  obtain ⟨t, rfl⟩ := r1
  have hA := hv.un pins s1 σ _ (fun x H2 => ∃ ι2, Ext H1 ι H2 ι2 ∧ RelG X.K H2 ι2 g1 ∧ RelS X.K H2 ι2 σd σ ∧ Rel X.K H2 ι2 d1 x) I1 ⟨ι, σd, g, d1, g1, G0, S0, h1, fun H2 ι2 v e G r => ⟨ι2, e, G, S0.ext e, r⟩⟩
  refine thn hA fun u s2 ⟨x, H2, I2, r2, ι2, e2, G2, S2, rd⟩ => ?_
  refine thn (hr.un pins s2 σ H2 (fun xs H3 => Q (x :: xs) H3) I2 ⟨ι2, σd, g1, d2, g2, G2, S2, h2, fun H3 ι3 vs e3 G3 r3 => ?_⟩) fun vs s3 ⟨xs, H3, I3, pr, q⟩ => ?_
  · refine p H3 ι3 _ (e2.trans e3) G3 ?_
    simp only [RelL]
    exact ⟨_, _, rfl, Rel.ext e3 _ rd, r3⟩
  · exact ⟨x :: xs, H3, I3, ⟨x, xs, t, u, vs, rfl, rfl, r2, pr⟩, q⟩⟩
def prK : List Str → List (Value × Value) → List (Key × Value)
  | k :: ks, p :: vs => (.inr k, p.2) :: prK ks vs
  | _, _ => []
theorem PrR.carries {P : Program} {w : World} : ∀ {ks : List Str} {xs : List V} {vs : List (Value × Value)}, PrR ks xs vs → Carries (mixKind P w) vs (prK ks vs)
  | [], xs, vs, h => by obtain ⟨_, rfl⟩ := h; trivial
  | k :: ks, xs, vs, h => by
    obtain ⟨x, xr, t, u, vr, rfl, rfl, r, h⟩ := h
    exact ⟨mixKind_str P w k t, rfl, h.carries⟩
theorem PrR.keys : ∀ {ks : List Str} {xs : List V} {vs : List (Value × Value)}, PrR ks xs vs → (prK ks vs).map (·.1) = ks.map Sum.inr
  | [], xs, vs, h => by obtain ⟨_, rfl⟩ := h; rfl
  | k :: ks, xs, vs, h => by
    obtain ⟨x, xr, t, u, vr, rfl, rfl, r, h⟩ := h
    simp only [prK, List.map_cons, h.keys]
theorem PrR.get {z : Str} {d : D} : ∀ {ks : List Str} {ds : List D} {xs : List V} {vs : List (Value × Value)}, PrR ks xs vs → xs = ds.map toV → tGet (ks.zip ds) z = some d → ∃ u, valueAt (prK ks vs) (.inr z : Key) = some u ∧ RelV (toV d) u
  | [], ds, xs, vs, h, e, g => by simp [tGet] at g
  | k :: ks, [], xs, vs, h, e, g => by simp [tGet] at g
  | k :: ks, d0 :: ds, xs, vs, h, e, g => by
    obtain ⟨x, xr, t, u, vr, rfl, rfl, r, h⟩ := h
    rw [List.map_cons] at e
    injection e with e1 e2
    by_cases hk : k = z
    · subst hk
      have : d0 = d := by simpa [tGet] using g
      subst this
      refine ⟨u, by simp [prK, valueAt], by rw [← e1]; exact r⟩
    · have g' : tGet (ks.zip ds) z = some d := by
        unfold tGet at g ⊢
        rw [List.zip_cons_cons, List.find?_cons] at g
        simpa [hk] using g
      obtain ⟨u', h1, h2⟩ := h.get e2 g'
      refine ⟨u', ?_, h2⟩
      unfold valueAt at h1 ⊢
      rw [prK, List.find?_cons]
      have hne : ¬ (Sum.inr k : Key) = Sum.inr z := fun q => hk (by injection q)
      simpa [hne] using h1
theorem tGet_flt {z : Str} {d : D} : ∀ {ks : List Str} {ds : List D}, ds.all flt = true → tGet (ks.zip ds) z = some d → flt d = true
  | [], ds, _, g => by simp [tGet] at g
  | k :: ks, [], _, g => by simp [tGet] at g
  | k :: ks, d0 :: ds, h, g => by
    rw [List.all_cons, Bool.and_eq_true] at h
    unfold tGet at g
    rw [List.zip_cons_cons, List.find?_cons] at g
    by_cases hk : k = z
    · have : d0 = d := by simpa [hk] using g
      subst this; exact h.1
    · exact tGet_flt (ks := ks) (z := z) h.2 (by unfold tGet; simpa [hk] using g)
end
end L3
namespace L3
open PySem PySem.Spec PyProof.Rows L2
section
variable {X : Cx}
def fPar (i j : Nat) (fr : FA) : FS := fun σ g => (fr σ g).bind fun r => match r.1 with
  | [a, b] => some (.nx, (σ.set i (some a)).set j (some b), r.2)
  | _ => none
theorem ds_par {i j : Nat} {x y : Str} {a b : Expr} {fr : FA} {px py pt pos : Pos} {kt k2 pt2} (hc : X.calm = true) (hN : X.N.Nodup) (hi : X.N[i]? = some x) (hj : X.N[j]? = some y) (hij : i ≠ j)
    (hx : X.env.scope.names.lookup x = some .local) (hy : X.env.scope.names.lookup y = some .local) (ha : DA X [a, b] fr)
    (hw : swappedStores [.Tuple [.Name x px, .Name y py] kt pt] (.Tuple [a, b] k2 pt2) X.env = pure (some [x, y]))
    (hs : swapsWithSole [.Tuple [.Name x px, .Name y py] kt pt] (.Tuple [a, b] k2 pt2) pos.line X.env = pure false := by rfl) :
    DS X (.Assign [.Tuple [.Name x px, .Name y py] kt pt] (.Tuple [a, b] k2 pt2) pos) (fPar i j fr) := .of (
  PS.imp (ps_par hc hN hi hj hij hx hy ha.un hw hs) fun Dn σ H h => by
    obtain ⟨ι, σd, g, r, σd', g', G0, S0, h, p⟩ := h
    obtain ⟨⟨ds, g1⟩, h1, h⟩ := bind_some h
    refine tDA.bind G0 S0 h1 fun H1 ι1 vs e1 G1 S1 r1 => ?_
    dsimp only at h
    split at h
    · rename_i a b
      cases h
      simp only [RelL] at r1
      obtain ⟨v, vr, rfl, ra, u, ur, rfl, rb, rfl⟩ := r1
      exact ⟨v, u, rfl, p H1 ι1 e1 G1 _ ((S1.set ra i).set rb j)⟩
    · cases h)
end
end L3
namespace L3
open PySem PySem.Spec PyProof.Rows L2
theorem next_tup_item {prog : Program} {w : World} {A : Around} {E : Value → Shared → Prop} {s : Shared} {it a : Addr} {i : Nat} {items : Array Value} {x : Value} {Q : Value → Shared → Prop} (hit : s.heap.IsTupleIter it a i) (hl : s.heap.IsTuple a items) (hx : items[i]? = some x)
    (hQ : ∀ h', h'.IsTupleIter it a (i + 1) → Heap.SameBut it s.heap h' → Q x { s with heap := h' }) : wpAny (model prog w) A (Builtin.SmallTypes.nextOf (.ref it)) Q E s := by
  obtain ⟨o, jo, jc, jd⟩ := id hit
  obtain ⟨tb0, tb1, _, tb3, tb2⟩ := hl
  unfold Builtin.SmallTypes.nextOf
  refine wpAny_bind (wpAny_callSpecial?_slot (name := Str.ofString "__next__") hit.typeIs F.slot_tuple_iterator_next (wpAny_call_entry F.slot_tuple_iterator_next hit.typeIs F.entry_tuple_iterator_next ?_ (F.args_tuple_iterator_next_1 _)))
  change wpAny _ _ (field (.ref it) 0 >>= fun _ => _) _ _ _
  refine wpAny_bind (wpAny_field jo jd (x := .ref a) rfl ?_)
  change wpAny _ _ (if (Value.ref a == Value.none) = true then _ else _) _ _ _
  rw [if_neg (by exact Bool.false_ne_true)]
  change wpAny _ _ (field (.ref it) 1 >>= fun _ => _) _ _ _
  refine wpAny_bind (wpAny_field jo jd (x := .int i 0) rfl ?_)
  change wpAny _ _ (seqItems? (.ref a) >>= fun _ => _) _ _ _
  refine wpAny_bind (wpAny_seqItems tb1 tb2 ?_)
  simp only [Int.toNat_natCast, hx]
  refine wpAny_bind (wpAny_setField jo jd (by simp) ?_)
  refine wpAny_pure ⟨x, rfl, wpAny_pure (hQ _ ⟨_, Heap.get?_update_self _ jo (Obj.isFreed_of_fields (Obj.data_mapFields jd _)), (Obj.cls_mapFields ..).trans jc, ?_⟩ (Heap.SameBut.update ..))⟩
  rw [Obj.data_mapFields jd]
  simp [rawInt]
theorem next_tup_end {prog : Program} {w : World} {A : Around} {E : Value → Shared → Prop} {s : Shared} {it a : Addr} {i : Nat} {items : Array Value} {Q : Value → Shared → Prop} (hh : A.handled = none) (hit : s.heap.IsTupleIter it a i) (hl : s.heap.IsTuple a items) (hx : items[i]? = none)
    (hE : ∀ h' e, Heap.ExtBut it s.heap h' → (∃ o, h'.get? e = some o ∧ o.cls = .type "StopIteration") → E (.ref e) { s with heap := h' }) : wpAny (model prog w) A (Builtin.SmallTypes.nextOf (.ref it)) Q E s := by
  obtain ⟨o, jo, jc, jd⟩ := id hit
  obtain ⟨tb0, tb1, _, tb3, tb2⟩ := hl
  unfold Builtin.SmallTypes.nextOf
  refine wpAny_bind (wpAny_callSpecial?_slot (name := Str.ofString "__next__") hit.typeIs F.slot_tuple_iterator_next (wpAny_call_entry F.slot_tuple_iterator_next hit.typeIs F.entry_tuple_iterator_next ?_ (F.args_tuple_iterator_next_1 _)))
  change wpAny _ _ (field (.ref it) 0 >>= fun _ => _) _ _ _
  refine wpAny_bind (wpAny_field jo jd (x := .ref a) rfl ?_)
  change wpAny _ _ (if (Value.ref a == Value.none) = true then _ else _) _ _ _
  rw [if_neg (by exact Bool.false_ne_true)]
  change wpAny _ _ (field (.ref it) 1 >>= fun _ => _) _ _ _
  refine wpAny_bind (wpAny_field jo jd (x := .int i 0) rfl ?_)
  change wpAny _ _ (seqItems? (.ref a) >>= fun _ => _) _ _ _
  refine wpAny_bind (wpAny_seqItems tb1 tb2 ?_)
  simp only [Int.toNat_natCast, hx]
  refine wpAny_bind (wpAny_rule (wpAny_bind (wpAny_setField jo jd (by simp) ?_)))
  change wpAny _ _ (newExc (.type "StopIteration") [] >>= fun _ => _) _ _ _
  refine wpAny_bind ?_
  simp only [newExc, newTuple]
  refine wpAny_bind (wpAny_newObj_type ?_ (by size_fits))
  refine wpAny_bind (m := firstArgMember _ _) (wpAny_of_eq (a := Value.none) (by first | rfl | (simp only [firstArgMember]; rfl)) ?_)
  refine wpAny_newObj_type ?_ (by size_fits)
  simp only [raiseNew]
  refine wpAny_bind (wpAny_handled ?_)
  rw [show A.in1.handled = none from hh]
  exact wpAny_bind (wpAny_pure (wpAny_throw (hE _ _ (((Heap.SameBut.update ..).extBut.push _).push _) ⟨_, Heap.get?_push_size _ rfl, rfl⟩)))
theorem draws_tup {prog : Program} {w : World} {A : Around} (hh : A.handled = none) (it a : Addr) (hne : a ≠ it) (items : Array Value) :
    Draws prog w A it [it, a] items.size (fun i v => items[i]? = some v) (fun i h => h.IsTupleIter it a i ∧ h.IsTuple a items) where
  live := fun _ _ st => let ⟨o, ho, _⟩ := st.1; ⟨o, ho⟩
  frame := fun _ _ _ st hk => ⟨st.1.at fun o e => hk it (by simp) o e, let ⟨o, ho, r⟩ := st.2; ⟨o, hk a (by simp) o ho, r⟩⟩
  item := fun i s Q E hi st hQ => next_tup_item st.1 st.2 (x := items[i]) (by simp [hi]) fun h' hit' hs' => hQ _ h' s.toks (by simp [hi]) ⟨hit', st.2.extBut hs'.extBut hne⟩ hs'
  done := fun s Q E st hE => next_tup_end hh st.1 st.2 (by simp) hE
theorem draws_end {prog : Program} {w : World} {A : Around} (hh : A.handled = none) (it a : Addr) (items : Array Value) (n : Nat) (hn : items.size ≤ n) :
    Draws prog w A it [it, a] n (fun _ _ => True) (fun j h => j = n ∧ h.IsTupleIter it a n ∧ h.IsTuple a items) where
  live := fun _ _ st => let ⟨o, ho, _⟩ := st.2.1; ⟨o, ho⟩
  frame := fun _ _ _ st hk => ⟨st.1, st.2.1.at fun o e => hk it (by simp) o e, let ⟨o, ho, r⟩ := st.2.2; ⟨o, hk a (by simp) o ho, r⟩⟩
  item := fun i s Q E hi st hQ => absurd st.1 (Nat.ne_of_lt hi)
  done := fun s Q E st hE => next_tup_end hh st.2.1 st.2.2 (by simp; exact hn) hE
theorem enum_newT (a : Addr) (items : Array Value) (n : Nat) (dct : Option Addr) (sl : Array (Option Value)) :
    Meets (Builtin.«enumerate.__new__» ⟨[.type "enumerate", .ref a], []⟩) (fun _ R s => s.heap.get? a = some { cls := .type "tuple", dict := dct, data := .seq items n, slots := sl } ∧
      R (.ok (.ret (.ref (s.heap.push { cls := .type "tuple_iterator", data := .fields #[.ref a, .int 0 0] }).objs.size)))
        { s with heap := (s.heap.push { cls := .type "tuple_iterator", data := .fields #[.ref a, .int 0 0] }).push { cls := .type "enumerate", data := .fields #[.none, .bool false, .ref s.heap.objs.size, rawInt 0, .none, .none] } }) :=
  .of_wp fun prog w A R s h => by
    obtain ⟨hp, g, d, tk, os⟩ := s
    obtain ⟨ht, h⟩ := h
    have sub := sub_enumerate
    have tup : Heap.IsTuple (Shared.heap ⟨hp, g, d, tk, os⟩) a items := ⟨_, ht, rfl, n, rfl⟩
    wp_walk using wpAny_loadPart' ht
    refine wpAny_stack_any fun st => wpAny_pure ?_
    split
    · rename_i c _ _ _ _ _
      cases (c == Value.type "enumerate") <;> (wp_walk using wpAny_loadPart' ht, wpAny_pyIter_tuple tup; exact ⟨_, rfl, h⟩)
    · wp_walk using wpAny_loadPart' ht, wpAny_pyIter_tuple tup
      exact ⟨_, rfl, h⟩
theorem call_enumT {prog : Program} {w : World} {A : Around} {E : Value → Shared → Prop} {s : Shared} {a : Addr} {items : Array Value} {Q : Value → Shared → Prop} (ht : s.heap.IsTuple a items)
    (h : ∀ h', IsEnum h' (s.heap.objs.size + 1) s.heap.objs.size 0 .none → h'.IsTupleIter s.heap.objs.size a 0 → (∀ b o, s.heap.get? b = some o → h'.get? b = some o) → Q (.ref (s.heap.objs.size + 1)) { s with heap := h' }) :
    wpAny (model prog w) A (call (.type "enumerate") [.ref a]) Q E s := by
  obtain ⟨⟨c, dct, dt, sl⟩, e1, e2, n, e3⟩ := ht
  cases (show c = .type "tuple" from e2)
  cases (show dt = .seq items n from e3)
  refine callType_new F.called_enumerate (by decide) (F.typeCall_enumerate_1 _) (F.newCall_enumerate_1 _) (fun obj => F.args_object_init_2 obj _) F.entry_enumerate_new (enum_newT a items n dct sl) ⟨e1, ?_⟩
  have sz : (s.heap.push { cls := .type "tuple_iterator", data := .fields #[.ref a, .int 0 0] }).objs.size = s.heap.objs.size + 1 := Heap.size_push ..
  have en := Heap.get?_push_size (s.heap.push { cls := .type "tuple_iterator", data := .fields #[.ref a, .int 0 0] }) (o := { cls := .type "enumerate", data := .fields #[.none, .bool false, .ref s.heap.objs.size, rawInt 0, .none, .none] }) rfl
  rw [sz] at en
  show _ ∧ _
  rw [sz]
  exact ⟨⟨_, en, rfl⟩, h _ en ⟨_, Heap.get?_push_of_some _ (Heap.get?_push_size _ rfl), rfl, rfl⟩ fun b o x => Heap.get?_push_of_some _ (Heap.get?_push_of_some _ x)⟩
theorem turnedL {X : Cx} {pins : List (Addr × Obj)} {σ : L2.St} {H : Hp} {s : Shared} {h' : Heap} {t' : Nat} {ch : List Addr} (I : L2.Inv X pins σ H s) (k : ∀ b o, b ∉ ch → s.heap.get? b = some o → h'.get? b = some o) (hf : ∀ b ∈ ch, FpOk X pins H b) :
    L2.Inv X pins σ H { s with heap := h', toks := t' } := by
  have nit : ∀ b u, H b = some u → b ∉ ch := fun b u e z => by rw [(hf b z).1] at e; cases e
  refine I.step (g' := s.gens) (d' := s.drawn) (ch := ch) (fun b hb => ?_) (fun b o _ _ hc e _ => k b o hc e) (fun b o _ _ hc e _ => ⟨o.slots, k b o hc e⟩) (fun _ _ _ _ n => n)
    (fun b o hc e => ⟨o, k b o hc e⟩) (fun _ _ e => e) (fun _ _ _ e => e) (fun b ps e => ⟨#[], by rw [e]; simp⟩) (fun m hm => ?_) (fun b u e => ?_) I.bare
  · obtain ⟨f0, f1, f2, f3, f4, f5⟩ := hf b hb
    exact ⟨f3, f1, f4, f5⟩
  · obtain ⟨o, es, ep, ho, r⟩ := hm
    exact ⟨o, es, ep, k _ o (fun z => (hf _ z).2.1 rfl) ho, r⟩
  · refine (I.hok b u e).stay (fun c v hc q => k c v ?_ q) (fun _ q => q) fun _ _ q => q
    rcases hc with z | z
    · rw [z]; exact nit b u e
    · exact nit c _ z
def IteT (K : PySem.W.Frag) (a : Addr) : It :=
  ⟨fun i H => ∃ xs x, SqT K H a xs ∧ xs[i]? = some x, fun i H x H' => ∃ T v, x = .ref T ∧ H T = none ∧ H' = upd H T (.tup [.int i, v]) ∧ ∀ xs, SqT K H a xs → xs[i]? = some v, fun i H => ∃ xs, SqT K H a xs ∧ xs.length ≤ i⟩
theorem turn_enumT {P : Program} {w : World} {K : PySem.W.Frag} {elts : List Expr} {kt : Nat} {tp : Pos} (a e it : Addr) (hei : e ≠ it) : Turn P w K (.Tuple elts kt tp) (IteT K a) [e, it] e (fun i h => (∃ old, IsEnum h e it i old) ∧ h.IsTupleIter it a i) where
  mem := by simp
  obj := fun i h st b hb => by
    obtain ⟨⟨old, h1⟩, o, h2, h3, h4⟩ := st
    rcases List.mem_cons.mp hb with rfl | hb
    · exact ⟨_, h1, fun v z => by cases z⟩
    · have hb' : b = it := by simpa using hb
      subst hb'
      exact ⟨o, h2, fun v z => by rw [h4] at z; cases z⟩
  keep := fun i h h' st k => by
    obtain ⟨⟨old, h1⟩, h2⟩ := st
    exact ⟨⟨old, k e (by simp) _ h1⟩, h2.at fun o q => k it (by simp) o q⟩
  item := by
    intro X hP hw hK hc i pins s σ H E I hf st hg
    subst hP hw hK
    obtain ⟨⟨old, h1⟩, h2⟩ := st
    obtain ⟨xs, x, hq, hx⟩ := hg
    obtain ⟨its, rv, p, hz⟩ := I.tuple hq
    obtain ⟨u, hu, ru⟩ := rv.get hx
    have ai : a ≠ it := fun z => by
      obtain ⟨o, q1, q2, _⟩ := p
      obtain ⟨o', q3, q4, _⟩ := h2
      rw [z, q3] at q1
      cases q1
      rw [q4] at q2
      exact absurd q2 (by decide)
    have ae : e ≠ a := fun z => by
      obtain ⟨o, q1, q2, _⟩ := p
      rw [← z, h1] at q1
      cases q1
      exact absurd (show Value.type "enumerate" = Value.type "tuple" from q2) (by decide)
    have hi : i < its.toArray.size := by
      have := (List.getElem?_eq_some_iff.mp hu).1
      simpa using this
    refine wpAny_pyNext_enum_itemD (draws_tup (A := X.A.in1) (I.ok.hd hc) it a ai its.toArray) h1 ⟨h2, p⟩ hi hei (by simp [hei, ae]) fun x' h' tk hP hout hst hT hsz hk => ?_
    have ex : x' = u := by
      have q : its.toArray[i]? = some x' := hP
      have q' : its[i]? = some x' := by simpa using q
      rw [hu] at q'
      exact (Option.some.inj q').symm
    subst ex
    refine ⟨_, rfl, wpAny_letOwnedTupleGo_enum hout fun h'' hen hs'' => ?_⟩
    have I1 : L2.Inv X pins σ (upd H s.heap.objs.size (.tup [.int i, x])) { s with heap := s.heap.push { cls := .type "tuple", data := .seq #[.int i tk, x'] } } :=
      I.laid (t' := s.toks) (o := .tup [.int i, x]) (fun b o q => Heap.get?_push_of_some _ q) (Nat.le_refl _) (show ObjOk X.prog X.w _ _ _ (.tup [.int i, x]) from ⟨by show 2 ≤ sizeLine; decide, [.int i tk, x'], .cons ⟨tk, rfl⟩ (.cons ru .nil), IsTup.new _ _⟩)
    have eT : e ≠ s.heap.objs.size := Nat.ne_of_lt (Heap.lt_size h1)
    have iT : it ≠ s.heap.objs.size := by
      obtain ⟨o', q3, _⟩ := h2
      exact Nat.ne_of_lt (Heap.lt_size q3)
    have I2 : L2.Inv X pins σ (upd H s.heap.objs.size (.tup [.int i, x])) { s with heap := h'', toks := tk + 1 } := turnedL (s := { s with heap := s.heap.push { cls := .type "tuple", data := .seq #[.int i tk, x'] } }) (ch := [e, it]) I1 (fun b o hb q => by
      simp only [List.mem_cons, List.mem_nil_iff, or_false, not_or] at hb
      have h3 : h'.get? b = some o := by
        by_cases hbT : b = s.heap.objs.size
        · subst hbT
          have : (s.heap.push { cls := .type "tuple", data := .seq #[.int i tk, x'] }).get? s.heap.objs.size = some o := q
          rw [Heap.get?_push_size _ rfl] at this
          rw [← this]; exact hT
        · exact hk b o hb.1 hb.2 ((Heap.get?_push_ne s.heap b _ hbT).symm.trans q)
      exact (hs''.2 b hb.1).trans h3) (fun b hb => by
        obtain ⟨f0, f1, f2, f3, f4, f5⟩ := hf b hb
        refine ⟨?_, f1, f2, f3, f4, f5⟩
        rcases List.mem_cons.mp hb with rfl | hb
        · rw [upd_ne eT]; exact f0
        · have hb' : b = it := by simpa using hb
          subst hb'
          rw [upd_ne iT]; exact f0)
    refine ⟨.ref s.heap.objs.size, _, I2, rfl, ⟨_, x, rfl, I.fresh, rfl, fun ys hy => by rw [I.tuple_inj hy hq]; exact hx⟩, ⟨⟨_, by simpa using hen⟩, ?_⟩, fun b hb => ?_⟩
    · exact hst.1.at fun o q => (hs''.2 it (Ne.symm hei)).trans q
    · rcases List.mem_cons.mp hb with rfl | hb
      · rw [upd_ne eT]; exact (hf _ (by simp)).1
      · have hb' : b = it := by simpa using hb
        subst hb'
        rw [upd_ne iT]; exact (hf _ (by simp)).1
  done := by
    intro X hP hw hK hc i pins s σ H E I hf st hg
    subst hP hw hK
    obtain ⟨⟨old, h1⟩, h2⟩ := st
    obtain ⟨xs, hq, hx⟩ := hg
    obtain ⟨its, rv, p, hz⟩ := I.tuple hq
    have ai : a ≠ it := fun z => by
      obtain ⟨o, q1, q2, _⟩ := p
      obtain ⟨o', q3, q4, _⟩ := h2
      rw [z, q3] at q1
      cases q1
      rw [q4] at q2
      exact absurd q2 (by decide)
    have f := hf it (by simp)
    have fin : ∀ h', Heap.ExtBut it s.heap h' → L2.Inv X pins σ H { s with heap := h' } := fun h' eb => I.turned (t' := s.toks) (fun b o hb q => eb b o hb q) f.1 f.2.1 f.2.2.2.1 f.2.2.2.2.1 f.2.2.2.2.2
    have hl := rv.length
    exact wpAny_pyNext_enum_endD (draws_end (A := X.A.in1) (I.ok.hd hc) it a its.toArray i (by simp; omega)) h1 ⟨rfl, h2, p⟩ fun h' eb => ⟨rfl, fin h' eb⟩
  self := fun _ _ _ _ _ st h => wpAny_pyIter_enum st.1.choose_spec h
theorem draws_endL {prog : Program} {w : World} {A : Around} (hh : A.handled = none) (it a : Addr) (items : Array Value) (n : Nat) (hn : items.size ≤ n) :
    Draws prog w A it [it, a] n (fun _ _ => True) (fun j h => j = n ∧ h.IsListIter it a n ∧ h.IsList a items) where
  live := fun _ _ st => let ⟨o, ho, _⟩ := st.2.1; ⟨o, ho⟩
  frame := fun _ _ _ st hk => ⟨st.1, st.2.1.at fun o e => hk it (by simp) o e, st.2.2.at fun o e => hk a (by simp) o e⟩
  item := fun i s Q E hi st hQ => absurd st.1 (Nat.ne_of_lt hi)
  done := fun s Q E st hE => wpAny_nextOf_list_end hh st.2.1 st.2.2 (by simp; exact hn) hE
def IteL (K : PySem.W.Frag) (a : Addr) : It :=
  ⟨fun i H => ∃ xs x, SqL K H a xs ∧ xs[i]? = some x, fun i H x H' => ∃ T v, x = .ref T ∧ H T = none ∧ H' = upd H T (.tup [.int i, v]) ∧ ∀ xs, SqL K H a xs → xs[i]? = some v, fun i H => ∃ xs, SqL K H a xs ∧ xs.length ≤ i⟩
theorem turn_enumL {P : Program} {w : World} {K : PySem.W.Frag} {elts : List Expr} {kt : Nat} {tp : Pos} (a e it : Addr) (hei : e ≠ it) : Turn P w K (.Tuple elts kt tp) (IteL K a) [e, it] e (fun i h => (∃ old, IsEnum h e it i old) ∧ h.IsListIter it a i) where
  mem := by simp
  obj := fun i h st b hb => by
    obtain ⟨⟨old, h1⟩, o, h2, h3, h4⟩ := st
    rcases List.mem_cons.mp hb with rfl | hb
    · exact ⟨_, h1, fun v z => by cases z⟩
    · have hb' : b = it := by simpa using hb
      subst hb'
      exact ⟨o, h2, fun v z => by rw [h4] at z; cases z⟩
  keep := fun i h h' st k => by
    obtain ⟨⟨old, h1⟩, h2⟩ := st
    exact ⟨⟨old, k e (by simp) _ h1⟩, h2.at fun o q => k it (by simp) o q⟩
  item := by
    intro X hP hw hK hc i pins s σ H E I hf st hg
    subst hP hw hK
    obtain ⟨⟨old, h1⟩, h2⟩ := st
    obtain ⟨xs, x, hq, hx⟩ := hg
    obtain ⟨its, rv, p, hz⟩ := I.list hq
    obtain ⟨u, hu, ru⟩ := rv.get hx
    have ai : a ≠ it := fun z => by
      obtain ⟨o, q1, q2, _⟩ := p.isList
      obtain ⟨o', q3, q4, _⟩ := h2
      rw [z, q3] at q1
      cases q1
      rw [q4] at q2
      exact absurd q2 (by decide)
    have ae : e ≠ a := fun z => by
      obtain ⟨o, q1, q2, _⟩ := p.isList
      rw [← z, h1] at q1
      cases q1
      exact absurd (show Value.type "enumerate" = Value.type "list" from q2) (by decide)
    have hi : i < its.toArray.size := by
      have := (List.getElem?_eq_some_iff.mp hu).1
      simpa using this
    refine wpAny_pyNext_enum_itemD (Draws.list (A := X.A.in1) (I.ok.hd hc) it a ai its.toArray) h1 ⟨h2, p.isList⟩ hi hei (by simp [hei, ae]) fun x' h' tk hP hout hst hT hsz hk => ?_
    have ex : x' = u := by
      have q : its.toArray[i]? = some x' := hP
      have q' : its[i]? = some x' := by simpa using q
      rw [hu] at q'
      exact (Option.some.inj q').symm
    subst ex
    refine ⟨_, rfl, wpAny_letOwnedTupleGo_enum hout fun h'' hen hs'' => ?_⟩
    have I1 : L2.Inv X pins σ (upd H s.heap.objs.size (.tup [.int i, x])) { s with heap := s.heap.push { cls := .type "tuple", data := .seq #[.int i tk, x'] } } :=
      I.laid (t' := s.toks) (o := .tup [.int i, x]) (fun b o q => Heap.get?_push_of_some _ q) (Nat.le_refl _) (show ObjOk X.prog X.w _ _ _ (.tup [.int i, x]) from ⟨by show 2 ≤ sizeLine; decide, [.int i tk, x'], .cons ⟨tk, rfl⟩ (.cons ru .nil), IsTup.new _ _⟩)
    have eT : e ≠ s.heap.objs.size := Nat.ne_of_lt (Heap.lt_size h1)
    have iT : it ≠ s.heap.objs.size := by
      obtain ⟨o', q3, _⟩ := h2
      exact Nat.ne_of_lt (Heap.lt_size q3)
    have I2 : L2.Inv X pins σ (upd H s.heap.objs.size (.tup [.int i, x])) { s with heap := h'', toks := tk + 1 } := turnedL (s := { s with heap := s.heap.push { cls := .type "tuple", data := .seq #[.int i tk, x'] } }) (ch := [e, it]) I1 (fun b o hb q => by
      simp only [List.mem_cons, List.mem_nil_iff, or_false, not_or] at hb
      have h3 : h'.get? b = some o := by
        by_cases hbT : b = s.heap.objs.size
        · subst hbT
          have : (s.heap.push { cls := .type "tuple", data := .seq #[.int i tk, x'] }).get? s.heap.objs.size = some o := q
          rw [Heap.get?_push_size _ rfl] at this
          rw [← this]; exact hT
        · exact hk b o hb.1 hb.2 ((Heap.get?_push_ne s.heap b _ hbT).symm.trans q)
      exact (hs''.2 b hb.1).trans h3) (fun b hb => by
        obtain ⟨f0, f1, f2, f3, f4, f5⟩ := hf b hb
        refine ⟨?_, f1, f2, f3, f4, f5⟩
        rcases List.mem_cons.mp hb with rfl | hb
        · rw [upd_ne eT]; exact f0
        · have hb' : b = it := by simpa using hb
          subst hb'
          rw [upd_ne iT]; exact f0)
    refine ⟨.ref s.heap.objs.size, _, I2, rfl, ⟨_, x, rfl, I.fresh, rfl, fun ys hy => by rw [I.list_inj hy hq]; exact hx⟩, ⟨⟨_, by simpa using hen⟩, ?_⟩, fun b hb => ?_⟩
    · exact hst.1.at fun o q => (hs''.2 it (Ne.symm hei)).trans q
    · rcases List.mem_cons.mp hb with rfl | hb
      · rw [upd_ne eT]; exact (hf _ (by simp)).1
      · have hb' : b = it := by simpa using hb
        subst hb'
        rw [upd_ne iT]; exact (hf _ (by simp)).1
  done := by
    intro X hP hw hK hc i pins s σ H E I hf st hg
    subst hP hw hK
    obtain ⟨⟨old, h1⟩, h2⟩ := st
    obtain ⟨xs, hq, hx⟩ := hg
    obtain ⟨its, rv, p, hz⟩ := I.list hq
    have ai : a ≠ it := fun z => by
      obtain ⟨o, q1, q2, _⟩ := p.isList
      obtain ⟨o', q3, q4, _⟩ := h2
      rw [z, q3] at q1
      cases q1
      rw [q4] at q2
      exact absurd q2 (by decide)
    have f := hf it (by simp)
    have fin : ∀ h', Heap.ExtBut it s.heap h' → L2.Inv X pins σ H { s with heap := h' } := fun h' eb => I.turned (t' := s.toks) (fun b o hb q => eb b o hb q) f.1 f.2.1 f.2.2.2.1 f.2.2.2.2.1 f.2.2.2.2.2
    have hl := rv.length
    exact wpAny_pyNext_enum_endD (draws_endL (A := X.A.in1) (I.ok.hd hc) it a its.toArray i (by simp; omega)) h1 ⟨rfl, h2, p.isList⟩ fun h' eb => ⟨rfl, fin h' eb⟩
  self := fun _ _ _ _ _ st h => wpAny_pyIter_enum st.1.choose_spec h
def enumD (xs : List D) : List D := xs.zipIdx.map fun p => .tup [.int (p.2 : Nat), p.1]
def iEnumT (f : FE) : FI := fun σ g => (f σ g).bind fun r => match r.1 with | .tup xs => some (enumD xs, r.2) | _ => none
theorem ItOk.enumT {K H ι a vs ds} (hq : SqU K H ι a vs) (hr : RelL K H ι ds vs) : ItOk K (IteT K a) H ι (enumD ds) := fun i H1 ι1 g1 e1 G1 =>
  ⟨fun hl => ⟨vs, (hq.exh e1).sq, by rw [← hr.length]; simpa [enumD] using hl⟩, fun d hd => by
    unfold enumD at hd
    rw [List.getElem?_map, List.getElem?_zipIdx] at hd
    cases hx : ds[i]? with
    | none => rw [hx] at hd; cases hd
    | some d0 =>
      rw [hx] at hd
      simp only [Option.map_some, Option.some.injEq, Nat.zero_add] at hd
      subst hd
      obtain ⟨v, hv, rv⟩ := (RelL.exh e1 _ hr).get hx
      refine ⟨⟨vs, v, (hq.exh e1).sq, hv⟩, fun x H2 y => ?_⟩
      obtain ⟨T, v', rfl, hn, rfl, hy⟩ := y
      have := hy vs (hq.exh e1).sq
      rw [hv] at this
      cases this
      refine ⟨Ext.lay hn, G1.lay hn, ?_⟩
      simp only [Rel]
      refine ⟨T, _, rfl, .inl ⟨.inl upd_same, G1.fresh hn⟩, ?_⟩
      simp only [RelL, Rel]
      exact ⟨_, _, rfl, rfl, _, _, rfl, Rel.ext (Ext.lay hn) _ rv, rfl⟩⟩
theorem di_enumT {X : Cx} {l : Expr} {fe : FE} {p pos tp : Pos} {elts : List Expr} {kt : Nat} (hg : Gl X "enumerate") (hm : X.mg "enumerate" = none) (hl : DE X l fe)
    (hs : starEach [l] X.env = [(false, eval l X.env)] := by rfl) : DI X (.Tuple elts kt tp) (.Call (.Name "enumerate" p) [l] [] pos) (iEnumT fe) := .of (by
  intro pins s σ H R I h
  obtain ⟨ι, σd, g, ds, g', G0, S0, h, q⟩ := h
  obtain ⟨⟨d1, g1⟩, h1, h⟩ := bind_some h
  cases d1 with
  | tup xs =>
    cases h
    refine Call_ (ld_blt I hg hm PyProof.Rows.boot_enumerate (PyProof.Rows.callWith_type1 (thn ((pa_cons hl.un pa_nil hs) pos pins s σ H (fun vs H1 => ∃ v ι1, vs = [v] ∧ Ext H ι H1 ι1 ∧ RelG X.K H1 ι1 g1 ∧ Rel X.K H1 ι1 (.tup xs) v) I ?_) fun us s1 ⟨vs, H1, I1, r1, v, ι1, e0, e1, G1, rd⟩ => ?_) hs rfl))
    · exact ⟨ι, σd, g, _, g1, G0, S0, h1, fun H1 ι1 v e1 G1 r1 => ⟨v, ι1, rfl, e1, G1, r1⟩⟩
    · subst e0
      obtain ⟨u, rfl, ru⟩ := vals1 r1
      simp only [Rel] at rd
      obtain ⟨a, vs, rfl, hq, hr⟩ := rd
      cases ru
      obtain ⟨its, rv, pt, hz⟩ := I1.tuple hq.sq
      refine call_enumT (show s1.heap.IsTuple a its.toArray from pt) fun h' hen hti hk => ?_
      refine wpAny_pyIter_enum hen ?_
      have hne : s1.heap.objs.size + 1 ≠ s1.heap.objs.size := Nat.succ_ne_self _
      refine ⟨s1.heap.objs.size + 1, [s1.heap.objs.size + 1, s1.heap.objs.size], _, _, H1, rfl, I1.kept (t' := s1.toks) hk, turn_enumT a _ _ hne, ⟨⟨_, hen⟩, hti⟩, fun b hb => ?_, q H1 ι1 _ e1 G1 (.enumT hq hr)⟩
      rcases List.mem_cons.mp hb with rfl | hb
      · exact I1.fpOk (Nat.le_succ _) (I1.hok.fresh (Nat.le_succ _))
      · have hb' : b = s1.heap.objs.size := by simpa using hb
        subst hb'
        exact I1.fpOk (Nat.le_refl _) (I1.hok.fresh (Nat.le_refl _))
  | _ => cases h)
def iEnumL (f : FE) : FI := fun σ g => (f σ g).bind fun r => match r.1 with | .lst xs => some (enumD xs, r.2) | _ => none
theorem ItOk.enumL {K H ι a vs ds} (hq : SqV K H ι a vs) (hr : RelL K H ι ds vs) : ItOk K (IteL K a) H ι (enumD ds) := fun i H1 ι1 g1 e1 G1 =>
  ⟨fun hl => ⟨vs, (hq.exh e1).sq, by rw [← hr.length]; simpa [enumD] using hl⟩, fun d hd => by
    unfold enumD at hd
    rw [List.getElem?_map, List.getElem?_zipIdx] at hd
    cases hx : ds[i]? with
    | none => rw [hx] at hd; cases hd
    | some d0 =>
      rw [hx] at hd
      simp only [Option.map_some, Option.some.injEq, Nat.zero_add] at hd
      subst hd
      obtain ⟨v, hv, rv⟩ := (RelL.exh e1 _ hr).get hx
      refine ⟨⟨vs, v, (hq.exh e1).sq, hv⟩, fun x H2 y => ?_⟩
      obtain ⟨T, v', rfl, hn, rfl, hy⟩ := y
      have := hy vs (hq.exh e1).sq
      rw [hv] at this
      cases this
      refine ⟨Ext.lay hn, G1.lay hn, ?_⟩
      simp only [Rel]
      refine ⟨T, _, rfl, .inl ⟨.inl upd_same, G1.fresh hn⟩, ?_⟩
      simp only [RelL, Rel]
      exact ⟨_, _, rfl, rfl, _, _, rfl, Rel.ext (Ext.lay hn) _ rv, rfl⟩⟩
theorem di_enumL {X : Cx} {l : Expr} {fe : FE} {p pos tp : Pos} {elts : List Expr} {kt : Nat} (hg : Gl X "enumerate") (hm : X.mg "enumerate" = none) (hl : DE X l fe)
    (hs : starEach [l] X.env = [(false, eval l X.env)] := by rfl) : DI X (.Tuple elts kt tp) (.Call (.Name "enumerate" p) [l] [] pos) (iEnumL fe) := .of (by
  intro pins s σ H R I h
  obtain ⟨ι, σd, g, ds, g', G0, S0, h, q⟩ := h
  obtain ⟨⟨d1, g1⟩, h1, h⟩ := bind_some h
  cases d1 with
  | lst xs =>
    cases h
    refine Call_ (ld_blt I hg hm PyProof.Rows.boot_enumerate (PyProof.Rows.callWith_type1 (thn ((pa_cons hl.un pa_nil hs) pos pins s σ H (fun vs H1 => ∃ v ι1, vs = [v] ∧ Ext H ι H1 ι1 ∧ RelG X.K H1 ι1 g1 ∧ Rel X.K H1 ι1 (.lst xs) v) I ?_) fun us s1 ⟨vs, H1, I1, r1, v, ι1, e0, e1, G1, rd⟩ => ?_) hs rfl))
    · exact ⟨ι, σd, g, _, g1, G0, S0, h1, fun H1 ι1 v e1 G1 r1 => ⟨v, ι1, rfl, e1, G1, r1⟩⟩
    · subst e0
      obtain ⟨u, rfl, ru⟩ := vals1 r1
      simp only [Rel] at rd
      obtain ⟨a, vs, rfl, hq, hr⟩ := rd
      cases ru
      obtain ⟨its, rv, pt, hz⟩ := I1.list hq.sq
      refine call_enumerate_list pt.isList fun h' hen hti _ hk => ?_
      refine wpAny_pyIter_enum hen ?_
      have hne : s1.heap.objs.size + 1 ≠ s1.heap.objs.size := Nat.succ_ne_self _
      refine ⟨s1.heap.objs.size + 1, [s1.heap.objs.size + 1, s1.heap.objs.size], _, _, H1, rfl, I1.kept (t' := s1.toks) hk, turn_enumL a _ _ hne, ⟨⟨_, hen⟩, hti⟩, fun b hb => ?_, q H1 ι1 _ e1 G1 (.enumL hq hr)⟩
      rcases List.mem_cons.mp hb with rfl | hb
      · exact I1.fpOk (Nat.le_succ _) (I1.hok.fresh (Nat.le_succ _))
      · have hb' : b = s1.heap.objs.size := by simpa using hb
        subst hb'
        exact I1.fpOk (Nat.le_refl _) (I1.hok.fresh (Nat.le_refl _))
  | _ => cases h)
def iEnum (f : FE) : FI := fun σ g => (f σ g).bind fun r => match r.1 with | .tup xs => some (enumD xs, r.2) | .lst xs => some (enumD xs, r.2) | _ => none
theorem di_enum {X : Cx} {l : Expr} {fe : FE} {p pos tp : Pos} {elts : List Expr} {kt : Nat} (hg : Gl X "enumerate") (hm : X.mg "enumerate" = none) (hl : DE X l fe)
    (hs : starEach [l] X.env = [(false, eval l X.env)] := by rfl) : DI X (.Tuple elts kt tp) (.Call (.Name "enumerate" p) [l] [] pos) (iEnum fe) := .of (by
  intro pins s σ H R I h
  obtain ⟨ι, σd, g, ds, g', G0, S0, h, q⟩ := h
  obtain ⟨⟨d1, g1⟩, h1, h2⟩ := bind_some h
  cases d1 with
  | tup xs => exact (di_enumT hg hm hl hs).un pins s σ H R I ⟨ι, σd, g, ds, g', G0, S0, by unfold iEnumT; rw [h1]; exact h2, q⟩
  | lst xs => exact (di_enumL hg hm hl hs).un pins s σ H R I ⟨ι, σd, g, ds, g', G0, S0, by unfold iEnumL; rw [h1]; exact h2, q⟩
  | _ => cases h2)
@[simp] theorem ev_iEnum {fa : FE} {σ : Sg} {g : G} : iEnum fa σ g = (fa σ g).bind fun r => match r.1 with | .tup xs => some (enumD xs, r.2) | .lst xs => some (enumD xs, r.2) | _ => none := rfl
end L3
namespace L3
open PySem PySem.Spec PyProof.Rows L2
section
variable {X : Cx}
def oAddR (d1 d2 : D) (g : G) : Option (D × G) := match lstOf d1 g, lstOf d2 g with
  | some xs, some ys => if szOk (xs.length + ys.length) = true then some (.ref g.length, g ++ [xs ++ ys]) else none
  | _, _ => none
theorem od_addR : OpR X (binaryOp .Add) (rD2 X.K oAddR) := by
  intro pins s σ H x y v u Q I rx ry q
  obtain ⟨ι, g, d1, d2, d, g', G0, r1, r2, q, p⟩ := q
  unfold oAddR at q
  split at q
  · rename_i xs ys e1 e2
    split at q
    · rename_i z
      cases q
      obtain ⟨a, vs, rfl, hq, hr⟩ := lstOf_sq G0 r1 e1
      obtain ⟨b, ws, rfl, hq2, hr2⟩ := lstOf_sq G0 r2 e2
      refine op_catL pins s σ H _ _ v u Q I rx ry ⟨a, b, vs, ws, rfl, rfl, hq, hq2, by rw [← hr.length, ← hr2.length]; exact szOk.le z, fun q' hq' => ?_⟩
      refine p _ _ _ (Ext.push hq') (G0.push hq' (RelL.append hr hr2)) ?_
      simp only [Rel]
      refine ⟨q', rfl, ?_⟩
      show (ι.ix ++ [q'])[g.length]? = some q'
      rw [List.getElem?_append_right (by rw [G0.len]; exact Nat.le_refl _), G0.len]; simp
    · cases q
  · cases q
end
section
variable {σ : Sg} {g : G} {fa fb fo fx : FE} {fr : FA}
@[simp] theorem ev_fApp : fApp fo fx σ g = (fo σ g).bind fun r => match r.1 with
  | .ref n => if (r.2[n]?).isSome = true then (fx σ r.2).bind fun q => match q.2[n]? with
      | some xs => if szOk (xs.length + 1) = true then some (.non, q.2.set n (xs ++ [q.1])) else none
      | none => none
    else none
  | _ => none := rfl
@[simp] theorem ev_oIn {d1 d2 : D} : oIn d1 d2 g = (seqOf d2 g).bind fun xs => if (flt d1 && xs.all flt) = true then some (.bl (inD d1 xs), g) else none := rfl
@[simp] theorem ev_fPar {i j : Nat} : fPar i j fr σ g = (fr σ g).bind fun r => match r.1 with
  | [a, b] => some (.nx, (σ.set i (some a)).set j (some b), r.2)
  | _ => none := rfl
@[simp] theorem ev_fDGet {tbl : List (Str × D)} : fDGet tbl fa σ g = (fa σ g).bind fun r => match r.1 with | .str x => (tGet tbl x).map fun d => (d, r.2) | _ => none := rfl
end
end L3
namespace L3
open PySem PySem.Spec PyProof.Rows L2
theorem hash_non {prog : Program} {w : World} {A : Around} {E : Value → Shared → Prop} {s : Shared} {Q : Int → Shared → Prop} (h : Q 4238894112 { s with toks := s.toks + 1 }) : wpAny (model prog w) A (pyHash .none) Q E s := by
  unfold pyHash
  have hv : [Value.none].any Value.onHeap = false := rfl
  refine wpAny_bind ?_
  rw [cRoomFor, if_neg (by rw [hv]; exact Bool.false_ne_true)]
  refine wpAny_pure (wpAny_bind (wpAny_specialOf (typeIs_none s) F.slot_NoneType_hash.lookup ?_))
  change wpAny _ _ (if (some (Value.builtin "NoneType.__hash__") == some Value.none) = true then _ else _) Q E s
  rw [if_neg (by rw [beq_builtin_none]; exact Bool.false_ne_true)]
  refine wpAny_bind (wpAny_specialOf (typeIs_none s) F.slot_NoneType_hash.lookup ?_)
  change wpAny _ _ (callSpecialIfBoundUnlessNone? .none "__hash__" _ >>= fun _ => _) Q E s
  refine wpAny_bind (wpAny_callSpecialIfBoundUnlessNone?_slot (typeIs_none s) F.slot_NoneType_hash (wpAny_call_entry F.slot_NoneType_hash (typeIs_none s) F.entry_NoneType_hash (show wpAny _ _ (do ret (← mkInt 0xFCA86420)) _ _ s from wpAny_ret_mkInt ?_) (F.args_NoneType_hash_1 _)))
  exact wpAny_pure h
abbrev KeyN := Option Str
def keyNIs : KeyN → Value → Bool
  | none, v => v == Value.none
  | some x, v => Value.isStrOf x v
theorem keyNIs_shape : ∀ {k : KeyN} {v : Value}, keyNIs k v = true → (k = none ∧ v = .none) ∨ ∃ x t, k = some x ∧ v = Value.str x t
  | none, v, h => .inl ⟨rfl, by simpa [keyNIs] using h⟩
  | some x, v, h => by
    obtain ⟨t, e⟩ := Value.isStrOf_shape (x := x) (v := v) h
    exact .inr ⟨x, t, rfl, e⟩
def nonKind (prog : Program) (w : World) : PySem.KeyKind prog w KeyN where
  is := keyNIs
  hash := fun k => match k with | none => 4238894112 | some x => hashStr w x
  inj := fun v a b ha hb => by
    rcases keyNIs_shape ha with ⟨rfl, rfl⟩ | ⟨x, t, rfl, rfl⟩
    · rcases keyNIs_shape hb with ⟨rfl, e⟩ | ⟨y, u, rfl, e⟩
      · rfl
      · exact nomatch e
    · rcases keyNIs_shape hb with ⟨rfl, e⟩ | ⟨y, u, rfl, e⟩
      · exact nomatch e
      · injection e with e1 _; rw [e1]
  byValue := fun k v h => by
    rcases keyNIs_shape h with ⟨rfl, rfl⟩ | ⟨x, t, rfl, rfl⟩ <;> rfl
  pyHash := fun hv h => by
    rcases keyNIs_shape hv with ⟨rfl, rfl⟩ | ⟨x, t, rfl, rfl⟩
    · exact hash_non h
    · exact wpAny_pyHash_str h
  eqBool := fun hu hv h => by
    rcases keyNIs_shape hu with ⟨rfl, rfl⟩ | ⟨x, t, rfl, rfl⟩
    · rcases keyNIs_shape hv with ⟨rfl, rfl⟩ | ⟨y, u, rfl, rfl⟩
      · exact SeqAt.EqAt.same _ _ _ _ _ h
      · exact SeqAt.EqAt.none_str y u _ _ _ _ h
    · rcases keyNIs_shape hv with ⟨rfl, rfl⟩ | ⟨y, u, rfl, rfl⟩
      · exact SeqAt.EqAt.str_none x t _ _ _ _ h
      · exact wpAny_eqBool_str (by simpa using h)
  «strs» := fun k x t v h => by
    rcases keyNIs_shape h with ⟨rfl, e⟩ | ⟨y, u, rfl, e⟩
    · exact nomatch e
    · injection e with e1 _
      subst e1
      cases v <;> rfl
theorem EntsR.keysN {P : Program} {w : World} {K : PySem.W.Frag} : ∀ {es : List DictEntry} {tbl : List (Str × D)}, EntsR w K es tbl → ∀ e ∈ es, ∃ k, (nonKind P w).is k e.key = true ∧ e.hash = (nonKind P w).hash k
  | [], _, _, e, he => nomatch he
  | e0 :: es, tbl, h, e, he => by
    obtain ⟨x, d, rest, rfl, ⟨t, hk⟩, hh, _, hr⟩ := h
    rcases List.mem_cons.mp he with rfl | he
    · refine ⟨some x, ?_, hh⟩
      rw [hk]
      show Value.isStrOf x (.str x t) = true
      simp [Value.isStrOf]
    · exact hr.keysN e he
theorem EntsR.findN {P : Program} {w : World} {K : PySem.W.Frag} : ∀ {es : List DictEntry} {tbl : List (Str × D)}, EntsR w K es tbl → (es.find? fun e => (nonKind P w).is none e.key) = none
  | [], tbl, h => rfl
  | e0 :: es, tbl, h => by
    obtain ⟨y, d, rest, rfl, ⟨t, hk⟩, hh, _, hr⟩ := h
    rw [List.find?_cons, hk]
    exact hr.findN
section
variable {X : Cx} {a : Addr} {tbl : List (Str × D)}
theorem DctAt.mapN {P : Program} {w : World} {K : PySem.W.Frag} (h : DctAt w K a tbl) {hp : Heap} (hk : K.In hp) : ∃ f, hp.MapOf (nonKind P w) a f ∧ f none = none := by
  obtain ⟨o, es, ep, h1, h2, h3, h4⟩ := h.ex
  refine ⟨_, ⟨o, es, ep, hk a o h1, h2, h3, fun e he => h4.keysN e (by simpa using he), fun k => rfl⟩, ?_⟩
  unfold findBy
  rw [← Array.find?_toList, h4.findN]
  rfl
def gD (tbl : List (Str × D)) : D → Option Bool
  | .str x => some (tGet tbl x).isSome
  | .non => some false
  | _ => none
def fDInN (tbl : List (Str × D)) (fe : FE) : FE := fun σ g => (fe σ g).bind fun r => (gD tbl r.1).map fun b => (.bl b, r.2)
def fDNotInN (tbl : List (Str × D)) (fe : FE) : FE := fun σ g => (fe σ g).bind fun r => (gD tbl r.1).map fun b => (.bl (!b), r.2)
def rInDctN (a : Addr) (tbl : List (Str × D)) (neg : Bool) : R2 := fun x y H Q => y = .ref a ∧ ((∃ k, x = .str k ∧ Q (.bl (if neg then !(tGet tbl k).isSome else (tGet tbl k).isSome)) H) ∨ (x = .non ∧ Q (.bl neg) H))
theorem op_notInDctN (hD : DctAt X.w X.K a tbl) : OpR X (compareOp .NotIn) (rInDctN a tbl true) := by
  intro pins s σ H x y v u Q I rx ry h
  obtain ⟨rfl, ⟨k, rfl, q⟩ | ⟨rfl, q⟩⟩ := h
  · exact op_notInDct hD pins s σ H _ _ v u Q I rx ry ⟨k, rfl, rfl, q⟩
  · cases rx
    cases ry
    obtain ⟨f, hm, hf⟩ := hD.mapN (P := X.prog) I.kIn
    refine wpAny_notIn_of (k := (none : KeyN)) (by rfl) hD.sys hm ⟨.bl _, H, I.tok _, rfl, ?_⟩
    rw [hf]; exact q
theorem tDInN_of {K} {fe : FE} {σ : L2.St} {H : Hp} {Q : VK} {neg : Bool} {f : FE} (hf : f = if neg then fDNotInN tbl fe else fDInN tbl fe) (h : tD K f σ H Q) : tOp (rInDctN a tbl neg) (tD K fe) (tC (.ref a)) σ H Q := by
  subst hf
  obtain ⟨ι, σd, g, d, g', G0, S0, h, p⟩ := h
  have h' : ((fe σd g).bind fun r => (gD tbl r.1).map fun b => (D.bl (if neg then !b else b), r.2)) = some (d, g') := by cases neg <;> exact h
  obtain ⟨⟨d1, g1⟩, h1, h⟩ := bind_some h'
  refine tD.bind G0 S0 h1 fun H1 ι1 v e1 G1 S1 r1 => ⟨rfl, ?_⟩
  cases d1 with
  | str x =>
    simp only [Rel] at r1
    subst r1
    cases h
    exact .inl ⟨x, rfl, p H1 ι1 _ e1 G1 (by simp [Rel])⟩
  | non =>
    simp only [Rel] at r1
    subst r1
    cases h
    refine .inr ⟨rfl, p H1 ι1 _ e1 G1 ?_⟩
    simp only [Rel]
    cases neg <;> rfl
  | _ => cases h
theorem dt_dnotinN {C : Str} {p pos : Pos} {e : Expr} {fe : FE} (hD : DctAt X.w X.K a tbl) (hm : X.mg C = some (.ref a)) (he : DE X e fe) (hg : Gl X C := by rfl) (hd : (C == ("__debug__" : Str)) = false := by decide) (hk : behindInMarks .NotIn (.Name C p) = false := by with_unfolding_all rfl) :
    DT X (.Compare e [.NotIn] [.Name C p] pos) (fTest (fDNotInN tbl fe)) := .of (PT.imp (pt_cmpR (op_notInDctN hD) he.un (pe_glob (v := .ref a) hg hm rfl hd) hk) fun σ H Q h => tTest_mono (fun _ _ _ => tDInN_of (neg := true) rfl) (tTest_of h))
end
end L3
namespace L3
open PySem PySem.Spec PyProof.Rows L2
section
variable {X : Cx}
end
section
variable {σ : Sg} {g : G} {fa fb : FE}
@[simp] theorem ev_fDInN {tbl : List (Str × D)} : fDInN tbl fa σ g = (fa σ g).bind fun r => (gD tbl r.1).map fun b => (.bl b, r.2) := rfl
@[simp] theorem ev_fDNotInN {tbl : List (Str × D)} : fDNotInN tbl fa σ g = (fa σ g).bind fun r => (gD tbl r.1).map fun b => (.bl (!b), r.2) := rfl
@[simp] theorem ev_tru_non : truD .non g = some false := rfl
@[simp] theorem ev_tru_tup {xs : List D} : truD (.tup xs) g = some (!xs.isEmpty) := rfl
@[simp] theorem ev_tru_lst {xs : List D} : truD (.lst xs) g = some (!xs.isEmpty) := rfl
end
end L3
namespace L3
open PySem PySem.Spec PyProof.Rows L2
structure ZA (z ti tu j1 j2 a1 a2 : Addr) : Prop where
  n1 : ti ≠ z
  n2 : tu ≠ z
  n3 : j1 ≠ z
  n4 : j2 ≠ z
  n5 : ti ≠ tu
  n6 : tu ≠ j1
  n7 : tu ≠ j2
  n8 : j1 ≠ j2
  n9 : ti ≠ j1
  n10 : ti ≠ j2
  m1 : a1 ≠ z ∧ a1 ≠ tu ∧ a1 ≠ j1 ∧ a1 ≠ j2
  m2 : a2 ≠ z ∧ a2 ≠ tu ∧ a2 ≠ j1 ∧ a2 ≠ j2
def stay (cs : List Addr) (h h' : Heap) : Prop := ∀ c o, c ∉ cs → h.get? c = some o → h'.get? c = some o
section
variable {prog : Program} {w : World} {A : Around} {E : Value → Shared → Prop} {s : Shared}
end
section
variable {prog : Program} {w : World} {A : Around} {E : Value → Shared → Prop} {s : Shared}
end
end L3
namespace L3
open PySem PySem.Spec PyProof.Rows L2
section
variable {prog : Program} {w : World} {A : Around} {E : Value → Shared → Prop} {s : Shared}
end
end L3
namespace L3
open PySem PySem.Spec PyProof.Rows L2
section
variable {X : Cx}
section
open SeqAt
variable {pins : List (Addr × Obj)} {σ : L2.St} {H : Hp} {s : Shared} {ι : Ix}
theorem rcNe_D (I : Inv X pins σ H s) : ∀ (d1 d2 : D) {A : Around} {x y : V} {u v : Value}, flat d1 = true → flat d2 = true → Rel X.K H ι d1 x → Rel X.K H ι d2 y → RelV x u → RelV y v → A.units + dep d1 < cLine → RcNeAt A s u v (!eqD d1 d2)
  | .non, d2, A, x, y, u, v, _, f2, r1, r2, ru, rv, hu => by
    simp only [Rel] at r1; subst r1; cases ru
    cases d2 with
    | non => simp only [Rel] at r2; subst r2; cases rv; simp only [eqD, Bool.not_true, Bool.not_false]; exact .none_none
    | bl b => simp only [Rel] at r2; subst r2; cases rv; simp only [eqD, Bool.not_true, Bool.not_false]; exact .none_bool b
    | int b => simp only [Rel] at r2; subst r2; obtain ⟨t, rfl⟩ := rv; simp only [eqD, Bool.not_true, Bool.not_false]; exact .none_int b t
    | str b => simp only [Rel] at r2; subst r2; obtain ⟨t, rfl⟩ := rv; simp only [eqD, Bool.not_true, Bool.not_false]; exact .none_str b t
    | tup ys => simp only [Rel] at r2; obtain ⟨a', ws, rfl, hq, hr⟩ := r2; cases rv; obtain ⟨its, _, ht, _⟩ := I.tuple hq.sq; simp only [eqD, Bool.not_true, Bool.not_false]; exact .none_tuple ht (by omega)
    | lst ys => simp only [Rel] at r2; obtain ⟨a', ws, rfl, hq, hr⟩ := r2; cases rv; obtain ⟨its, _, ht, _⟩ := I.list hq.sq; simp only [eqD, Bool.not_true, Bool.not_false]; exact .none_list ht.isList (by omega)
    | _ => cases f2
  | .bl a, d2, A, x, y, u, v, _, f2, r1, r2, ru, rv, hu => by
    simp only [Rel] at r1; subst r1; cases ru
    cases d2 with
    | non => simp only [Rel] at r2; subst r2; cases rv; simp only [eqD, Bool.not_true, Bool.not_false]; exact .bool_none a
    | bl b => simp only [Rel] at r2; subst r2; cases rv; simp only [eqD, Bool.not_true, Bool.not_false]; exact .bool_bool a b
    | int b => simp only [Rel] at r2; subst r2; obtain ⟨t, rfl⟩ := rv; simp only [eqD, Bool.not_true, Bool.not_false]; exact .bool_int a b t
    | str b => simp only [Rel] at r2; subst r2; obtain ⟨t, rfl⟩ := rv; simp only [eqD, Bool.not_true, Bool.not_false]; exact .bool_str a b t
    | tup ys => simp only [Rel] at r2; obtain ⟨a', ws, rfl, hq, hr⟩ := r2; cases rv; obtain ⟨its, _, ht, _⟩ := I.tuple hq.sq; simp only [eqD, Bool.not_true, Bool.not_false]; exact .bool_tuple a ht (by omega)
    | lst ys => simp only [Rel] at r2; obtain ⟨a', ws, rfl, hq, hr⟩ := r2; cases rv; obtain ⟨its, _, ht, _⟩ := I.list hq.sq; simp only [eqD, Bool.not_true, Bool.not_false]; exact .bool_list a ht.isList (by omega)
    | _ => cases f2
  | .int a, d2, A, x, y, u, v, _, f2, r1, r2, ru, rv, hu => by
    simp only [Rel] at r1; subst r1; obtain ⟨t0, rfl⟩ := ru
    cases d2 with
    | non => simp only [Rel] at r2; subst r2; cases rv; simp only [eqD, Bool.not_true, Bool.not_false]; exact .int_none a t0
    | bl b => simp only [Rel] at r2; subst r2; cases rv; simp only [eqD, Bool.not_true, Bool.not_false]; exact .int_bool a t0 b
    | int b => simp only [Rel] at r2; subst r2; obtain ⟨t, rfl⟩ := rv; simp only [eqD, Bool.not_true, Bool.not_false]; exact .int_int a t0 b t
    | str b => simp only [Rel] at r2; subst r2; obtain ⟨t, rfl⟩ := rv; simp only [eqD, Bool.not_true, Bool.not_false]; exact .int_str a t0 b t
    | tup ys => simp only [Rel] at r2; obtain ⟨a', ws, rfl, hq, hr⟩ := r2; cases rv; obtain ⟨its, _, ht, _⟩ := I.tuple hq.sq; simp only [eqD, Bool.not_true, Bool.not_false]; exact .int_tuple a t0 ht (by omega)
    | lst ys => simp only [Rel] at r2; obtain ⟨a', ws, rfl, hq, hr⟩ := r2; cases rv; obtain ⟨its, _, ht, _⟩ := I.list hq.sq; simp only [eqD, Bool.not_true, Bool.not_false]; exact .int_list a t0 ht.isList (by omega)
    | _ => cases f2
  | .str a, d2, A, x, y, u, v, _, f2, r1, r2, ru, rv, hu => by
    simp only [Rel] at r1; subst r1; obtain ⟨t0, rfl⟩ := ru
    cases d2 with
    | non => simp only [Rel] at r2; subst r2; cases rv; simp only [eqD, Bool.not_true, Bool.not_false]; exact .str_none a t0
    | bl b => simp only [Rel] at r2; subst r2; cases rv; simp only [eqD, Bool.not_true, Bool.not_false]; exact .str_bool a t0 b
    | int b => simp only [Rel] at r2; subst r2; obtain ⟨t, rfl⟩ := rv; simp only [eqD, Bool.not_true, Bool.not_false]; exact .str_int a t0 b t
    | str b => simp only [Rel] at r2; subst r2; obtain ⟨t, rfl⟩ := rv; simp only [eqD, Bool.not_true, Bool.not_false]; exact .str_str a t0 b t
    | tup ys => simp only [Rel] at r2; obtain ⟨a', ws, rfl, hq, hr⟩ := r2; cases rv; obtain ⟨its, _, ht, _⟩ := I.tuple hq.sq; simp only [eqD, Bool.not_true, Bool.not_false]; exact .str_tuple a t0 ht (by omega)
    | lst ys => simp only [Rel] at r2; obtain ⟨a', ws, rfl, hq, hr⟩ := r2; cases rv; obtain ⟨its, _, ht, _⟩ := I.list hq.sq; simp only [eqD, Bool.not_true, Bool.not_false]; exact .str_list a t0 ht.isList (by omega)
    | _ => cases f2
  | .tup xs, d2, A, x, y, u, v, f1, f2, r1, r2, ru, rv, hu => by
    simp only [Rel] at r1; obtain ⟨a, vs, rfl, hq, hr⟩ := r1; cases ru
    obtain ⟨its, rits, ht, _⟩ := I.tuple hq.sq
    simp only [dep] at hu
    cases d2 with
    | non => simp only [Rel] at r2; subst r2; cases rv; simp only [eqD, Bool.not_true, Bool.not_false]; exact .tuple_none ht (by omega)
    | bl b => simp only [Rel] at r2; subst r2; cases rv; simp only [eqD, Bool.not_true, Bool.not_false]; exact .tuple_bool b ht (by omega)
    | int b => simp only [Rel] at r2; subst r2; obtain ⟨t, rfl⟩ := rv; simp only [eqD, Bool.not_true, Bool.not_false]; exact .tuple_int b t ht (by omega)
    | str b => simp only [Rel] at r2; subst r2; obtain ⟨t, rfl⟩ := rv; simp only [eqD, Bool.not_true, Bool.not_false]; exact .tuple_str b t ht (by omega)
    | tup ys =>
      simp only [Rel] at r2; obtain ⟨a', ws, rfl, hq', hr'⟩ := r2; cases rv
      obtain ⟨its', rits', ht', _⟩ := I.tuple hq'.sq
      simp only [eqD, eqDs_all]
      have l1 : xs.length = its.toArray.size := by rw [List.size_toArray, ← rits.length]; exact hr.length
      have l2 : ys.length = its'.toArray.size := by rw [List.size_toArray, ← rits'.length]; exact hr'.length
      rw [l1, l2]
      refine .tuples ht ht' (by omega) fun j h1 h2 => ?_
      have := eqAts_D I xs ys (A := A.in1) f1 f2 hr hr' rits rits' (by rw [in1_units]; omega) j (by simpa using h1) (by simpa using h2)
      simpa using this
    | lst ys =>
      simp only [Rel] at r2; obtain ⟨a', ws, rfl, hq', hr'⟩ := r2; cases rv
      obtain ⟨its', rits', ht', _⟩ := I.list hq'.sq
      simp only [eqD, Bool.not_true, Bool.not_false]; exact .tuple_list ht ht'.isList (by omega)
    | _ => cases f2
  | .lst xs, d2, A, x, y, u, v, f1, f2, r1, r2, ru, rv, hu => by
    simp only [Rel] at r1; obtain ⟨a, vs, rfl, hq, hr⟩ := r1; cases ru
    obtain ⟨its, rits, ht, _⟩ := I.list hq.sq
    simp only [dep] at hu
    cases d2 with
    | non => simp only [Rel] at r2; subst r2; cases rv; simp only [eqD, Bool.not_true, Bool.not_false]; exact .list_none ht.isList (by omega)
    | bl b => simp only [Rel] at r2; subst r2; cases rv; simp only [eqD, Bool.not_true, Bool.not_false]; exact .list_bool b ht.isList (by omega)
    | int b => simp only [Rel] at r2; subst r2; obtain ⟨t, rfl⟩ := rv; simp only [eqD, Bool.not_true, Bool.not_false]; exact .list_int b t ht.isList (by omega)
    | str b => simp only [Rel] at r2; subst r2; obtain ⟨t, rfl⟩ := rv; simp only [eqD, Bool.not_true, Bool.not_false]; exact .list_str b t ht.isList (by omega)
    | lst ys =>
      simp only [Rel] at r2; obtain ⟨a', ws, rfl, hq', hr'⟩ := r2; cases rv
      obtain ⟨its', rits', ht', _⟩ := I.list hq'.sq
      simp only [eqD, eqDs_all]
      have l1 : xs.length = its.toArray.size := by rw [List.size_toArray, ← rits.length]; exact hr.length
      have l2 : ys.length = its'.toArray.size := by rw [List.size_toArray, ← rits'.length]; exact hr'.length
      rw [l1, l2]
      by_cases hs : its.toArray.size = its'.toArray.size
      · have e0 : (its.toArray.size == its'.toArray.size) = true := by simpa using hs
        rw [e0, Bool.and_true, ← hs, Nat.min_self]
        refine .lists ht.isList ht'.isList hs (by omega) fun j h1 h2 => ?_
        have := eqAts_D I xs ys (A := A.in1) f1 f2 hr hr' rits rits' (by rw [in1_units]; omega) j (by simpa using h1) (by simpa using h2)
        simpa using this
      · have e0 : (its.toArray.size == its'.toArray.size) = false := by simpa using hs
        rw [e0, Bool.and_false, Bool.not_false]
        exact .lists_lengths ht.isList ht'.isList (by simpa using hs) (by omega)
    | tup ys =>
      simp only [Rel] at r2; obtain ⟨a', ws, rfl, hq', hr'⟩ := r2; cases rv
      obtain ⟨its', rits', ht', _⟩ := I.tuple hq'.sq
      simp only [eqD, Bool.not_true, Bool.not_false]; exact .list_tuple ht.isList ht' (by omega)
    | _ => cases f2
  | .edc, d2, A, x, y, u, v, f1, _, _, _, _, _, _ => by cases f1
  | .ref _, d2, A, x, y, u, v, f1, _, _, _, _, _, _ => by cases f1
end
def oNeD (d1 d2 : D) (g : G) : Option (D × G) := if (flat d1 && flat d2 && decide (dep d1 ≤ 60)) = true then some (.bl (!eqD d1 d2), g) else none
theorem od_neD (hu : X.A.units + 64 < cLine) : OpR X (compareOp .NotEq) (rD2 X.K oNeD) := by
  intro pins s σ H x y v u Q I rx ry q
  obtain ⟨ι, g, d1, d2, d, g', G0, r1, r2, q, p⟩ := q
  unfold oNeD at q
  split at q
  · rename_i z
    simp only [Bool.and_eq_true, decide_eq_true_eq] at z
    cases q
    exact rcNe_D I d1 d2 z.1.1 z.1.2 r1 r2 rx ry (by omega) _ _ _ _ ⟨.bl _, H, I, rfl, p H ι _ Ext.refl G0 (by simp [Rel])⟩
  · cases q
end
@[simp] theorem ev_oNeD {d1 d2 : D} {g : G} : oNeD d1 d2 g = if (flat d1 && flat d2 && decide (dep d1 ≤ 60)) = true then some (.bl (!eqD d1 d2), g) else none := rfl
end L3
namespace L3
open PySem PySem.Spec PyProof.Rows L2
section
variable {X : Cx}
section
variable {pins : List (Addr × Obj)} {σ : L2.St} {H : Hp} {s : Shared} {ι : Ix}
end
end
end L3
namespace L3
open PySem PySem.Spec PyProof.Rows L2
def intsD : List D → Option (List Int)
  | [] => some []
  | .int i :: ds => (intsD ds).map (i :: ·)
  | _ => none
theorem intsD_cons {d : D} {ds : List D} {ns : List Int} (h : intsD (d :: ds) = some ns) : ∃ i ms, d = .int i ∧ ns = i :: ms ∧ intsD ds = some ms := by
  cases d with
  | int i =>
    simp only [intsD, Option.map_eq_some_iff] at h
    obtain ⟨ms, h1, rfl⟩ := h
    exact ⟨i, ms, rfl, rfl, h1⟩
  | _ => simp [intsD] at h
theorem intsD_are {K H ι} : ∀ {xs : List D} {vs : List V} {us : List Value} {ns : List Int}, intsD xs = some ns → RelL K H ι xs vs → Vals vs us → IntsAre us ns
  | [], vs, us, ns, h, r, rv => by simp only [RelL] at r; subst r; cases rv; cases h; exact .nil
  | d :: ds, vs, us, ns, h, r, rv => by
    obtain ⟨i, ms, rfl, rfl, h1⟩ := intsD_cons h
    simp only [RelL, Rel] at r
    obtain ⟨v, vr, rfl, rfl, hr⟩ := r
    cases rv with
    | cons r0 rr =>
      obtain ⟨t, rfl⟩ := r0
      exact .cons i t (intsD_are h1 hr rr)
theorem ints_items : ∀ {us : List Value} {ns : List Int}, IntsAre us ns → ∃ xs : List (Int × Tok), us = xs.map (fun p => Value.int p.1 p.2) ∧ ns = xs.map (·.1)
  | _, _, .nil => ⟨[], rfl, rfl⟩
  | _, _, .cons n t h => by
    obtain ⟨xs, rfl, rfl⟩ := ints_items h
    exact ⟨(n, t) :: xs, rfl, rfl⟩
section
variable {X : Cx}
theorem vals_ints : ∀ {us : List Value} {ns : List Int}, IntsAre us ns → Vals (ns.map V.int) us
  | _, _, .nil => .nil
  | _, _, .cons n t h => .cons ⟨t, rfl⟩ (vals_ints h)
theorem relL_intsD {K : PySem.W.Frag} {H : Hp} {ι : Ix} : ∀ ns : List Int, RelL K H ι (ns.map D.int) (ns.map V.int)
  | [] => by simp [RelL]
  | n :: ns => by
    simp only [List.map_cons, RelL]
    exact ⟨_, _, rfl, by simp [Rel], relL_intsD ns⟩
end
end L3
namespace L3
open PySem PySem.Spec PyProof.Rows L2
section
variable {X : Cx}
end
section
variable {σ : Sg} {g : G} {fr : FA}
end
end L3
namespace L3
open PySem PySem.Spec PyProof.Rows L2
section
variable {X : Cx}
end
end L3
namespace L3
open PySem PySem.Spec PyProof.Rows L2 HT
section
variable {prog : Program} {w : World} {A : Around} {E : Value → Shared → Prop} {s : Shared}
theorem getItem_tuple_whole {t sl : Addr} {items : Array Value} {vl vu : Value} {lo hi : Option Int} {Q : Value → Shared → Prop} (ht : IsTup s.heap t items) (hs : s.heap.IsSliceOf sl vl vu .none) (pl : IsPart vl lo) (pu : IsPart vu hi)
    (hw : sIx items.size 0 lo = 0 ∧ sIx items.size items.size hi = items.size)
    (h : Q (.ref t) s) : wpAny (model prog w) A (getItem (.ref t) (.ref sl)) Q E s := by
  obtain ⟨os, hos, hcs, hds⟩ := id hs
  have hTs : s.TypeIs (.ref sl) "slice" := ⟨os, hos, hcs⟩
  unfold getItem
  try with_reducible refine wpAny_holding ?_
  first | refine wpAny_bind (wpAny_pure ?_) | skip
  refine wpAny_bind (wpAny_sequenceKey ht.typeIs (by decide) ?_)
  refine wpAny_bind (wpAny_callSpecial?_slot (name := Str.ofString "__getitem__") ht.typeIs PyProof.Rows.slot_tuple_getitem
    (wpAny_call_entry PyProof.Rows.slot_tuple_getitem ht.typeIs entry_tuple_getitem ?_ (args_tuple_getitem _ _)))
  show wpAny _ _ (Builtin.Tuple.tupleItemsOf (.ref t) >>= _) _ _ s
  refine wpAny_bind (tupleItemsOf_ ht ?_)
  refine wpAny_bind (wpAny_typeOf hTs ?_)
  rw [if_pos (by decide)]
  refine wpAny_bind (sliceApplied_gen hs pl pu ?_)
  have hyes : ((((sIx items.size 0 lo : Nat) : Int) == 0 && (1 : Int) == 1 && (sIx items.size items.size hi - sIx items.size 0 lo) == items.size) = true) := by
    rw [hw.1, hw.2]; simp
  show wpAny _ _ (if (((sIx items.size 0 lo : Nat) : Int) == 0 && (1 : Int) == 1 && (sIx items.size items.size hi - sIx items.size 0 lo) == items.size) = true then _ else _) _ _ s
  rw [if_pos hyes]
  unfold Builtin.Tuple.tupleIsExact
  refine wpAny_bind (wpAny_bind (wpAny_typeOf ht.typeIs (wpAny_pure ?_)))
  rw [if_pos (by decide)]
  refine wpAny_bind (wpAny_rule (wpAny_pure ⟨_, rfl, wpAny_pure h⟩))
end
section
variable {X : Cx}
def rSlW (K : PySem.W.Frag) : V → Option Int → Option Int → Hp → VK → Prop := fun x lo hi H Q => ∃ a xs, x = .ref a ∧ SqT K H a xs ∧ (HT.sIx xs.length 0 lo = 0 ∧ HT.sIx xs.length xs.length hi = xs.length) ∧ Q (.ref a) H
theorem sl_whole : SlR X (rSlW X.K) := by
  intro pins s σ H x v vl vu lo hi sl Q I rx hs pl pu h
  obtain ⟨a, xs, rfl, hx, hw, q⟩ := h
  cases rx
  obtain ⟨its, r, ht, hz⟩ := I.tuple hx
  have hlen : its.toArray.size = xs.length := by rw [List.size_toArray]; exact r.length.symm
  refine ⟨"tuple", _, PyProof.Rows.slot_tuple_getitem.lookup, ht.typeIs, ?_⟩
  exact getItem_tuple_whole ht hs pl pu (by rw [hlen]; exact hw) ⟨.ref a, H, I, rfl, q⟩
def oSlW (d : D) (lo hi : Option Int) (g : G) : Option (D × G) := match d with
  | .tup xs => some (.tup (cutD xs lo hi), g)
  | d => oSl d lo hi g
theorem cut_whole {xs : List D} {lo hi : Option Int} (h : wholeD xs.length lo hi = true) : cutD xs lo hi = xs := by
  unfold wholeD at h
  rw [Bool.and_eq_true, decide_eq_true_eq, decide_eq_true_eq] at h
  unfold cutD
  rw [h.1, h.2]
  simp
def fSlW (fa : FE) (fl fh : FO) : FE := fun σ g => (fa σ g).bind fun r => (fl σ r.2).bind fun l => (fh σ l.2).bind fun h => oSlW r.1 l.1 h.1 h.2
theorem de_sliceW {a : Expr} {lo hi : Option Expr} {fa : FE} {fl fh : FO} {p2 pos : Pos} (ha : DE X a fa) (hl : DO X lo fl) (hh : DO X hi fh) : DE X (.Subscript a (.Slice lo hi none p2) pos) (fSlW fa fl fh) := .of (
  PE.imp (pe_slice (SlR.or sl_both sl_whole) ha.un hl.un hh.un) fun σ H Q h => by
    obtain ⟨ι, σd, g, d, g', G0, S0, h, p⟩ := h
    obtain ⟨⟨d1, g1⟩, h1, h⟩ := bind_some h
    obtain ⟨⟨l, g2⟩, h2, h⟩ := bind_some h
    obtain ⟨⟨u, g3⟩, h3, h⟩ := bind_some h
    refine tD.bind G0 S0 h1 fun H1 ι1 v e1 G1 S1 r1 => ?_
    refine ⟨ι1, σd, g1, l, g2, G1, S1, h2, fun H2 ι2 e2 G2 => ?_⟩
    refine ⟨ι2, σd, g2, u, g3, G2, S1.ext e2, h3, fun H3 ι3 e3 G3 => ?_⟩
    have r3 := Rel.ext (e2.trans e3) _ r1
    have p3 := p.mono (e1.trans (e2.trans e3))
    have lst : ∀ {xs : List D} {a : Addr} {vs : List V}, v = .ref a → SqL X.K H3 a vs → RelL X.K H3 ι3 xs vs → some (D.lst (cutD xs l u), g3) = some (d, g') → rSlD X.K v l u H3 Q := fun {xs a vs} ev hq hr hh => by
      cases hh
      refine .inr ⟨a, vs, ev, hq, fun q hq' => p3 _ _ _ (Ext.lay hq') (G3.lay hq') ?_⟩
      simp only [Rel]
      exact ⟨q, _, rfl, .inl ⟨.inl upd_same, G3.fresh hq', G3.freshH hq'⟩, RelL.ext (Ext.lay hq') _ (hr.cutv l u)⟩
    dsimp only at h
    cases d1 with
    | tup xs =>
      simp only [oSlW] at h
      cases h
      have r4 := r3
      simp only [Rel] at r3
      obtain ⟨a, vs, rfl, hq, hr⟩ := r3
      by_cases z : wholeD xs.length l u = true
      · refine .inr ⟨a, vs, rfl, hq.sq, ?_, p3 _ _ _ Ext.refl G3 ?_⟩
        · unfold wholeD at z
          rw [hr.length, Bool.and_eq_true, decide_eq_true_eq, decide_eq_true_eq] at z; exact z
        · rw [cut_whole z]; exact r4
      · refine .inl (.inl ⟨a, vs, rfl, hq.sq, fun c => z ?_, fun q hq' => p3 _ _ _ (Ext.lay hq') (G3.lay hq') ?_⟩)
        · unfold wholeD
          rw [hr.length, Bool.and_eq_true, decide_eq_true_eq, decide_eq_true_eq]; exact c
        · simp only [Rel]
          exact ⟨q, _, rfl, .inl ⟨.inl upd_same, G3.fresh hq'⟩, RelL.ext (Ext.lay hq') _ (hr.cutv l u)⟩
    | lst xs =>
      simp only [oSlW, oSl] at h
      simp only [Rel] at r3
      obtain ⟨a, vs, e0, hq, hr⟩ := r3
      exact .inl (lst e0 hq.sq hr h)
    | ref n =>
      simp only [oSlW, oSl] at h
      split at h
      · rename_i xs hx
        simp only [Rel] at r3
        obtain ⟨a, e0, ha⟩ := r3
        obtain ⟨vs, hv, hr⟩ := G3.at hx ha
        exact .inl (lst e0 (.of hv) hr h)
      · cases h
    | _ => cases h)
end
@[simp] theorem ev_fSlW {fa : FE} {fl fh : FO} {σ : Sg} {g : G} : fSlW fa fl fh σ g = (fa σ g).bind fun r => (fl σ r.2).bind fun l => (fh σ l.2).bind fun h => oSlW r.1 l.1 h.1 h.2 := rfl
end L3
namespace L3
open PySem PySem.Spec PyProof.Rows L2
mutual
def nd : D → Nat
  | .tup xs => nds xs + 1
  | _ => 1
def nds : List D → Nat
  | [] => 0
  | d :: ds => nd d + nds ds
end
end L3
namespace L3
open PySem PySem.Spec PyProof.Rows L2
section
variable {X : Cx}
end
end L3
namespace L3
open PySem PySem.Spec PyProof.Rows L2
section
variable {X : Cx}
end
end L3
namespace L3
open PySem PySem.Spec PyProof.Rows L2
section
variable {X : Cx}
section
variable {σ : Sg} {g : G} {fe fx : FE}
end
end
end L3
namespace SW
open PySem PySem.Spec PyProof.Rows
theorem sl_next : Slot "set_iterator" "__next__" "set_iterator.__next__" :=
  .of (owner := "set_iterator") (n := "__next__") (by rw [typeLookup_type, builtinLookup_eq_fast]; kernel_rfl) (by decide +kernel) (by decide +kernel) (by decide +kernel)
    (by first | exact .inl (by decide +kernel) | exact .inr (by decide +kernel)) (by rw [isSubtype_type]; kernel_rfl)
theorem en_next : entryFor table "set_iterator.__next__" = some Builtin.«set_iterator.__next__» := entryFor_of_tree (by kernel_rfl)
theorem ar_next (a : Value) : argsOk "set_iterator.__next__" ⟨[a], []⟩ := by unfold argsOk; kernel_rfl
theorem en_iter : entryFor table "set.__iter__" = some Builtin.«frozenset.__iter__» :=
  entryFor_alias (id' := "frozenset.__iter__") (by kernel_rfl) rfl (by decide +kernel) (by kernel_rfl)
def itO (slot i : Nat) (a : Addr) (n ep : Nat) : Obj := { cls := .type "set_iterator", data := .fields #[rawInt slot, rawInt i, .ref a, rawInt n, rawInt ep] }
def seO (es : Array (Int × Value)) (ep : Nat) (t : SetTable) : Obj := { cls := .type "set", data := .set es ep t }
section
variable {prog : Program} {w : World} {A : Around} {E : Value → Shared → Prop} {s : Shared} {I a : Addr} {es : Array (Int × Value)} {ep : Nat} {t : SetTable} {slot i : Nat}
theorem set_next {slot' : Nat} {hh : Int} {Q : Option (Value × Nat) → Shared → Prop} (ha : s.heap.get? a = some (seO es ep t)) (hf : t.fits es.size = true)
    (hb : w.params.followText "set-order" = false) (hl : t.led = true) (hp : t.plain = true)
    (hQ : Q (match es[SetTable.below t.place slot]?, t.place[SetTable.below t.place slot]? with | some (_, x), some j => some (x, j + 1) | _, _ => none) s) : wpAny (model prog w) A (setNext a slot i ep) Q E s := by
  unfold setNext
  refine wpAny_bind (wpAny_setState_of ha rfl hf ?_)
  dsimp only
  unfold setsByText
  refine wpAny_bind (wpAny_bind (wpAny_askSetting (wpAny_pure ?_)))
  have hb' : (Setting.params ⟨(model prog w).prog, (model prog w).w.params⟩).followText "set-order" = false := hb
  rw [hb']
  simp only [Bool.false_eq_true, if_false]
  have dr : ¬ (!t.plain && decide (es.size > 1)) = true := by simp [hp]
  show wpAny _ _ (if (!t.plain && decide (es.size > 1)) = true then _ else _) _ _ s
  rw [if_neg dr]
  have lr : ¬ (!t.led && !es.isEmpty) = true := by simp [hl]
  show wpAny _ _ ((if (!t.led && !es.isEmpty) = true then unsupported "set:maker-not-led" else pure ()) >>= _) _ _ s
  rw [if_neg lr]
  exact wpAny_bind (wpAny_pure (wpAny_pure hQ))
theorem set_nextT {Q : Option (Value × Nat) → Shared → Prop} (ha : s.heap.get? a = some (seO es ep t)) (hf : t.fits es.size = true)
    (hb : w.params.followText "set-order" = true)
    (hQ : Q (((pickOrder (w.params.setOrder a ep) es)[i]?).map fun e => (e.2, slot)) s) : wpAny (model prog w) A (setNext a slot i ep) Q E s := by
  have hb' : (Setting.params ⟨(model prog w).prog, (model prog w).w.params⟩).followText "set-order" = true := hb
  unfold setNext
  refine wpAny_bind (wpAny_setState_of ha rfl hf ?_)
  dsimp only
  unfold setsByText
  refine wpAny_bind (wpAny_bind (wpAny_askSetting (wpAny_pure ?_)))
  rw [hb']
  have ee : (ep != ep) = false := by simp
  simp only [if_true, ee, Bool.false_eq_true, if_false]
  refine wpAny_bind ?_
  unfold setWalk setsByText
  refine wpAny_bind (wpAny_setState_of ha rfl hf ?_)
  dsimp only
  refine wpAny_bind (wpAny_bind (wpAny_askSetting (wpAny_pure ?_)))
  rw [hb']
  simp only [if_true]
  refine wpAny_bind (wpAny_askSetting ?_)
  exact wpAny_pure (wpAny_pure hQ)
theorem next_some {x : Value} {sl' : Nat} {Q : Option Value → Shared → Prop} (hI : s.heap.get? I = some (itO slot i a es.size ep)) (ha : s.heap.get? a = some (seO es ep t)) (hf : t.fits es.size = true)
    (hn : ∀ (A : Around) (E : Value → Shared → Prop) (Q : Option (Value × Nat) → Shared → Prop), Q (some (x, sl')) s → wpAny (model prog w) A (setNext a slot i ep) Q E s)
    (hQ : ∀ h', h'.get? I = some (itO sl' (i + 1) a es.size ep) → Heap.SameBut I s.heap h' → Q (some x) { s with heap := h' }) : wpAny (model prog w) A (pyNext (.ref I)) Q E s := by
  have hT : s.TypeIs (.ref I) "set_iterator" := ⟨_, hI, rfl⟩
  unfold pyNext
  refine wpAny_bind (wpAny_attempt (wpAny_callSpecial?_slot (name := Str.ofString "__next__") hT sl_next (wpAny_call_entry sl_next hT en_next ?bd (ar_next _))))
  unfold Builtin.«set_iterator.__next__»
  refine wpAny_bind (wpAny_pure ?_)
  refine wpAny_bind (wpAny_fieldsOf hI rfl ?_)
  show wpAny _ _ (setEntries a >>= _) _ _ s
  refine wpAny_bind (wpAny_setEntries_of ha rfl hf ?_)
  have hne : (((es.size : Nat) : Int) != ((es.size : Nat) : Int)) = false := by simp
  dsimp only
  rw [hne]
  simp only [Bool.false_eq_true, if_false]
  show wpAny _ _ (setNext a (Int.toNat (slot : Int)) (Int.toNat (i : Int)) (Int.toNat (ep : Int)) >>= _) _ _ s
  rw [Int.toNat_natCast, Int.toNat_natCast, Int.toNat_natCast]
  refine wpAny_bind (hn _ _ _ ?_)
  dsimp only
  refine wpAny_bind (wpAny_setField hI rfl (by simp) ?_)
  have h1 := Heap.get?_update_self (Obj.mapFields (·.setIfInBounds 0 (rawInt (sl' : Int)))) hI (by rfl)
  refine wpAny_bind (wpAny_setField h1 (vs := #[rawInt (sl' : Int), rawInt i, .ref a, rawInt es.size, rawInt ep]) (by rfl) (by simp) ?_)
  refine wpAny_pure ⟨x, rfl, wpAny_pure (hQ _ ?_ ?_)⟩
  · exact (Heap.get?_update_self (Obj.mapFields (·.setIfInBounds 1 (rawInt ((i : Int) + 1)))) h1 (by rfl)).trans rfl
  · exact (Heap.SameBut.update ..).trans (Heap.SameBut.update ..)
theorem next_none {Q : Option Value → Shared → Prop} (hh : A.handled = none) (hI : s.heap.get? I = some (itO slot i a es.size ep)) (ha : s.heap.get? a = some (seO es ep t)) (hf : t.fits es.size = true)
    (hn : ∀ (A : Around) (E : Value → Shared → Prop) (Q : Option (Value × Nat) → Shared → Prop), Q none s → wpAny (model prog w) A (setNext a slot i ep) Q E s)
    (hQ : ∀ h', Heap.ExtBut I s.heap h' → Q none { s with heap := h' }) : wpAny (model prog w) A (pyNext (.ref I)) Q E s := by
  have hT : s.TypeIs (.ref I) "set_iterator" := ⟨_, hI, rfl⟩
  unfold pyNext
  refine wpAny_bind (wpAny_attempt (wpAny_callSpecial?_slot (name := Str.ofString "__next__") hT sl_next (wpAny_call_entry sl_next hT en_next ?bd (ar_next _))))
  unfold Builtin.«set_iterator.__next__»
  refine wpAny_bind (wpAny_pure ?_)
  refine wpAny_bind (wpAny_fieldsOf hI rfl ?_)
  show wpAny _ _ (setEntries a >>= _) _ _ s
  refine wpAny_bind (wpAny_setEntries_of ha rfl hf ?_)
  have hne : (((es.size : Nat) : Int) != ((es.size : Nat) : Int)) = false := by simp
  dsimp only
  rw [hne]
  simp only [Bool.false_eq_true, if_false]
  show wpAny _ _ (setNext a (Int.toNat (slot : Int)) (Int.toNat (i : Int)) (Int.toNat (ep : Int)) >>= _) _ _ s
  rw [Int.toNat_natCast, Int.toNat_natCast, Int.toNat_natCast]
  refine wpAny_bind (hn _ _ _ ?_)
  dsimp only
  refine wpAny_bind (wpAny_setField hI rfl (by simp) ?_)
  refine wpAny_bind ?_
  simp only [newExc, newTuple]
  refine wpAny_bind (wpAny_newObj_type ?_ (by size_fits))
  refine wpAny_bind (m := firstArgMember _ _) (wpAny_of_eq (a := Value.none) (by first | rfl | (simp only [firstArgMember]; rfl)) ?_)
  refine wpAny_newObj_type ?_ (by size_fits)
  simp only [raiseNew]
  refine wpAny_bind (wpAny_handled ?_)
  rw [show A.in1.handled = none from hh]
  refine wpAny_bind (wpAny_pure (wpAny_throw ?_))
  refine wpAny_bind (wpAny_isInstance (T := "StopIteration") (b := true) ⟨_, Heap.get?_push_size _ rfl, rfl⟩ isSubtype_stop ?_)
  exact wpAny_pure (hQ _ (((Heap.SameBut.update ..).extBut.push _).push _))
end
end SW
namespace SW
open PySem PySem.Spec PyProof.Rows
theorem sl_self : Slot "set_iterator" "__iter__" "set_iterator.__iter__" :=
  .of (owner := "set_iterator") (n := "__iter__") (by rw [typeLookup_type, builtinLookup_eq_fast]; kernel_rfl) (by decide +kernel) (by decide +kernel) (by decide +kernel)
    (by first | exact .inl (by decide +kernel) | exact .inr (by decide +kernel)) (by rw [isSubtype_type]; kernel_rfl)
theorem en_self : entryFor table "set_iterator.__iter__" = some Builtin.«dict_keyiterator.__iter__» :=
  entryFor_alias (id' := "dict_keyiterator.__iter__") (by kernel_rfl) rfl (by decide +kernel) (by kernel_rfl)
theorem ar_self (a : Value) : argsOk "set_iterator.__iter__" ⟨[a], []⟩ := by unfold argsOk; kernel_rfl
section
variable {prog : Program} {w : World} {A : Around} {E : Value → Shared → Prop} {s : Shared} {I a : Addr} {es : Array (Int × Value)} {ep : Nat} {t : SetTable} {slot i : Nat}
theorem iter_self {Q : Value → Shared → Prop} (hI : s.heap.get? I = some (itO slot i a es.size ep)) (h : Q (.ref I) s) : wpAny (model prog w) A (pyIter (.ref I)) Q E s := by
  have hT : s.TypeIs (.ref I) "set_iterator" := ⟨_, hI, rfl⟩
  refine wpAny_pyIter_slot hT sl_self (wpAny_call_entry sl_self hT en_self ?_ (ar_self _))
  show wpAny _ _ (ret (.ref I)) _ _ s
  exact wpAny_pure ⟨_, rfl, "set_iterator", _, hT, sl_next.lookup, h⟩
structure Way (prog : Program) (w : World) (a : Addr) (es : Array (Int × Value)) (ep : Nat) (t : SetTable) (ord : List Value) (ok : Nat → Nat → Prop) : Prop where
  fit : t.fits es.size = true
  len : ord.length = es.size
  zero : ok 0 0
  step : ∀ i slot, i < es.size → ok i slot → ∃ x sl', ord[i]? = some x ∧ ok (i + 1) sl' ∧ ∀ (s : Shared) (A : Around) (E : Value → Shared → Prop) (Q : Option (Value × Nat) → Shared → Prop), s.heap.get? a = some (seO es ep t) → Q (some (x, sl')) s → wpAny (model prog w) A (setNext a slot i ep) Q E s
  stop : ∀ slot, ok es.size slot → ∀ (s : Shared) (A : Around) (E : Value → Shared → Prop) (Q : Option (Value × Nat) → Shared → Prop), s.heap.get? a = some (seO es ep t) → Q none s → wpAny (model prog w) A (setNext a slot es.size ep) Q E s
theorem walks {ord : List Value} {ok : Nat → Nat → Prop} (W : Way prog w a es ep t ord ok) (hh : A.handled = none) (hne : a ≠ I) :
    Walks prog w A I [I, a] [I] es.size (fun i v => ord[i]? = some v) (fun i h => (∃ slot, ok i slot ∧ h.get? I = some (itO slot i a es.size ep)) ∧ h.get? a = some (seO es ep t)) where
  sub := fun b hb => by simp at hb; simp [hb]
  frame := fun _ _ _ st hk => ⟨let ⟨sl, q, e⟩ := st.1; ⟨sl, q, hk I (by simp) _ e⟩, hk a (by simp) _ st.2⟩
  item := fun i s Q E hi st hQ => by
    obtain ⟨⟨sl, q, e⟩, ha⟩ := st
    obtain ⟨x, sl', hx, hq, hn⟩ := W.step i sl hi q
    refine next_some e ha W.fit (fun A E Q h => hn s A E Q ha h) fun h' hI' hs => ?_
    exact hQ _ h' s.toks hx ⟨⟨sl', hq, hI'⟩, hs.extBut a _ hne ha⟩ fun b o hb e => hs.extBut b o (fun h => hb (by simp [h])) e
  done := fun s Q E st hQ => by
    obtain ⟨⟨sl, q, e⟩, ha⟩ := st
    exact next_none hh e ha W.fit (fun A E Q h => W.stop sl q s A E Q ha h) fun h' he => hQ h' s.toks fun b o hb e => he b o (fun h => hb (by simp [h])) e
  self := fun i s Q E st hQ => by
    obtain ⟨⟨sl, q, e⟩, ha⟩ := st
    exact iter_self e hQ
theorem er_perm {α : Type} : ∀ (l : List α) (i : Nat) (h : i < l.length), (l[i] :: l.eraseIdx i).Perm l
  | x :: l, 0, h => by simp
  | x :: l, i + 1, h => by
    have := er_perm l i (by simpa using h)
    simp only [List.getElem_cons_succ, List.eraseIdx_cons_succ]
    exact (List.Perm.swap _ _ _).trans (this.cons x)
theorem pick_go {α : Type} (f : Nat → Nat) : ∀ (n k : Nat) (l : List α) (out : Array α), n = l.length → (pickOrder.go f n k l out).toList.Perm (out.toList ++ l)
  | 0, k, l, out, h => by
    have : l = [] := List.length_eq_zero_iff.mp h.symm
    subst this
    simp [pickOrder.go]
  | n + 1, k, l, out, h => by
    have hl : 0 < l.length := by omega
    have hm := Nat.mod_lt (f k) hl
    rw [pickOrder.go, List.getElem?_eq_getElem hm]
    dsimp only
    refine (pick_go f n (k + 1) _ _ (by rw [List.length_eraseIdx_of_lt hm]; omega)).trans ?_
    rw [Array.toList_push, List.append_assoc, List.singleton_append]
    exact List.Perm.append_left _ (er_perm l _ hm)
theorem pick_perm {α : Type} (f : Nat → Nat) (xs : Array α) : (pickOrder f xs).toList.Perm xs.toList := by
  have := pick_go f xs.size 0 xs.toList #[] (by simp)
  simpa [pickOrder] using this
theorem wayT (hf : t.fits es.size = true) (hb : w.params.followText "set-order" = true) : Way prog w a es ep t ((pickOrder (w.params.setOrder a ep) es).toList.map (·.2)) (fun _ slot => slot = 0) := by
  have hl : (pickOrder (w.params.setOrder a ep) es).toList.length = es.toList.length := (pick_perm _ es).length_eq
  have hs : (pickOrder (w.params.setOrder a ep) es).size = es.size := by simpa using hl
  refine ⟨hf, by simp [hs], rfl, fun i slot hi h0 => ?_, fun slot h0 s A E Q ha hQ => ?_⟩
  · subst h0
    have hi' : i < (pickOrder (w.params.setOrder a ep) es).size := by omega
    refine ⟨(pickOrder (w.params.setOrder a ep) es)[i].2, 0, by simp [hi'], rfl, fun s A E Q ha hQ => ?_⟩
    refine set_nextT ha hf hb ?_
    rw [Array.getElem?_eq_getElem hi']
    exact hQ
  · subst h0
    refine set_nextT ha hf hb ?_
    rw [Array.getElem?_eq_none (by omega)]
    exact hQ
theorem wayL (hf : t.fits es.size = true) (hb : w.params.followText "set-order" = false) (hl : t.led = true) (hp : t.plain = true) (hs : t.place.size = es.size) (h0 : SetTable.below t.place 0 = 0)
    (hw : ∀ i j, t.place[i]? = some j → SetTable.below t.place (j + 1) = i + 1) : Way prog w a es ep t (es.toList.map (·.2)) (fun i slot => SetTable.below t.place slot = i) := by
  refine ⟨hf, by simp, h0, fun i slot hi h => ?_, fun slot h s A E Q ha hQ => ?_⟩
  · have hj : i < t.place.size := by omega
    refine ⟨es[i].2, t.place[i] + 1, by simp [hi], hw i _ (Array.getElem?_eq_getElem hj), fun s A E Q ha hQ => ?_⟩
    refine set_next (slot' := 0) (hh := 0) ha hf hb hl hp ?_
    rw [h, Array.getElem?_eq_getElem hi, Array.getElem?_eq_getElem hj]
    exact hQ
  · refine set_next (slot' := 0) (hh := 0) ha hf hb hl hp ?_
    rw [h, Array.getElem?_eq_none (by omega)]
    exact hQ
end
end SW
namespace SW
open PySem PySem.Spec PyProof.Rows
theorem look_len : typeLookup (.type "set") "__len__" = pure (some (.builtin "set.__len__")) := by rw [typeLookup_type, builtinLookup_eq_fast]; kernel_rfl
section
variable {prog : Program} {w : World} {A : Around} {E : Value → Shared → Prop} {s : Shared} {I a : Addr} {es : Array (Int × Value)} {ep : Nat} {t : SetTable} {slot i : Nat}
theorem set_drawn {Q : Bool → Shared → Prop} (ha : s.heap.get? a = some (seO es ep t)) (hf : t.fits es.size = true) (hd : w.params.followText "set-order" = true ∨ t.plain = true) (hQ : Q false s) : wpAny (model prog w) A (setDrawn a) Q E s := by
  unfold setDrawn
  refine wpAny_bind (wpAny_setState_of ha rfl hf ?_)
  dsimp only
  unfold setsByText
  refine wpAny_bind (wpAny_bind (wpAny_askSetting (wpAny_pure ?_)))
  have e : (!w.params.followText "set-order" && (!t.plain && decide (es.size > 1))) = false := by
    rcases hd with h | h <;> simp [h]
  refine wpAny_pure ?_
  show Q (!w.params.followText "set-order" && (!t.plain && decide (es.size > 1))) s
  rw [e]
  exact hQ
theorem iter_set {Q : Value → Shared → Prop} (ha : s.heap.get? a = some (seO es ep t)) (hf : t.fits es.size = true) (hd : w.params.followText "set-order" = true ∨ t.plain = true)
    (hQ : Q (.ref s.heap.objs.size) { s with heap := s.heap.push (itO 0 0 a es.size ep) }) : wpAny (model prog w) A (pyIter (.ref a)) Q E s := by
  have hT : s.TypeIs (.ref a) "set" := ⟨_, ha, rfl⟩
  refine wpAny_pyIter_slot hT F.slot_set_iter (wpAny_call_entry F.slot_set_iter hT en_iter ?_ (F.args_set_iter_1 _))
  unfold Builtin.«frozenset.__iter__» Builtin.Frozenset.slot0 slotArgs
  simp only [List.isEmpty_nil, Bool.not_true, Bool.false_eq_true, ↓reduceIte, bind_assoc, List.length_nil, bne_self_eq_false]
  unfold Builtin.Frozenset.addrOf Builtin.Frozenset.sizeOf
  refine wpAny_bind (wpAny_pure ?_)
  try dsimp only
  refine wpAny_bind (wpAny_pure ?_)
  refine wpAny_bind (wpAny_bind (wpAny_setEntries_of ha rfl hf (wpAny_pure ?_)))
  refine wpAny_bind (set_drawn ha hf hd ?_)
  simp only [Bool.false_eq_true, if_false]
  refine wpAny_bind (wpAny_pure ?_)
  refine wpAny_bind (wpAny_setEpoch_of ha rfl hf ?_)
  refine wpAny_bind (m := newFields _ _) (wpAny_newObj_type ?_)
  exact wpAny_pure ⟨_, rfl, "set_iterator", _, ⟨_, Heap.get?_push_size _ rfl, rfl⟩, sl_next.lookup, hQ⟩
set_option maxHeartbeats 4000000 in
theorem collect_set {ord : List Value} {ok : Nat → Nat → Prop} {Q : List Value → Shared → Prop} (W : Way prog w a es ep t ord ok) (hh : A.handled = none) (ha : s.heap.get? a = some (seO es ep t)) (hd : w.params.followText "set-order" = true ∨ t.plain = true) (hn : es.size ≤ sizeLine)
    (hQ : ∀ (h' : Heap) (tk : Nat), s.heap.objs.size < h'.objs.size → (∀ b o, s.heap.get? b = some o → h'.get? b = some o) → Q ord { s with heap := h', toks := tk }) : wpAny (model prog w) A (collect (.ref a)) Q E s := by
  have hlt : a < s.heap.objs.size := Heap.lt_size ha
  have hSa : s.heap.objs.size ≠ a := fun e => Nat.lt_irrefl _ (e ▸ hlt)
  unfold collect
  refine wpAny_bind (wpAny_runValue (codeAny_builtin F.entry_proto_collect ?_))
  rw [Around.under_plainId F.plain_proto_collect _]
  show wpAny _ A.in1 (newList [] >>= fun l => again (.builtin "list.__iadd__" ⟨[l, .ref a], []⟩)) _ _ s
  refine wpAny_bind (wpAny_newObj_type ?_)
  refine wpAny_pure ⟨plainId_quiet F.plain_list_iadd _, codeAny_builtin F.entry_list_iadd ?_⟩
  rw [Around.under_plainId F.plain_list_iadd _]
  show wpAny _ A.in1 (Builtin.List.listExtendWith (.ref s.heap.objs.size) (.ref a) (.ref s.heap.objs.size)) _ _ _
  unfold Builtin.List.listExtendWith
  have ha1 : (s.heap.push { cls := .type "list", data := .seq ([] : List Value).toArray }).get? a = some (seO es ep t) := Heap.get?_push_of_some _ ha
  refine wpAny_bind (wpAny_typeOf (T := "set") ⟨_, ha1, rfl⟩ ?_)
  have h1 : Builtin.List.listSameRef (.ref s.heap.objs.size) (.ref a) = false := by simp [Builtin.List.listSameRef, hSa]
  have h2 : (Value.type "set" == Value.type "list") = false := by decide
  have h3 : (Value.type "set" == Value.type "tuple") = false := by decide
  simp only [h1, h2, h3, Bool.or_false, Bool.false_eq_true, if_false]
  refine wpAny_bind (iter_set ha1 W.fit hd ?_)
  refine wpAny_bind (wpAny_holding ?_)
  generalize hH : s.heap.push { cls := .type "list", data := .seq ([] : List Value).toArray } = H at *
  have hHs : H.objs.size = s.heap.objs.size + 1 := by rw [← hH, Heap.size_push]
  have ha2 : (H.push (itO 0 0 a es.size ep)).get? a = some (seO es ep t) := Heap.get?_push_of_some _ ha1
  unfold Builtin.List.listLengthHint
  refine wpAny_bind (wpAny_specialOf (T := "set") ⟨_, ha2, rfl⟩ look_len ?_)
  wp_delta
  refine wpAny_bind (wpAny_isInstance (T := "set") (v := .ref a) (b := true) ⟨_, ha2, rfl⟩ sub_set_self ?_)
  show wpAny _ A.in1 (typeOf (Value.ref a) >>= _) _ _ _
  refine wpAny_bind (wpAny_typeOf (T := "set") (v := .ref a) ⟨_, ha2, rfl⟩ ?_)
  refine wpAny_pure ?_
  show wpAny _ A.in1 (rule "list.extend.makes-room" >>= fun _ => Builtin.List.listTouch (.ref s.heap.objs.size) >>= fun _ =>
    again (.builtin "list.extend.loop" ⟨[.ref s.heap.objs.size, .ref H.objs.size, .ref s.heap.objs.size], []⟩)) _ _ _
  refine wpAny_bind (wpAny_rule ?_)
  have hS1 : (H.push (itO 0 0 a es.size ep)).get? s.heap.objs.size = some { cls := .type "list", data := .seq ([] : List Value).toArray } := Heap.get?_push_of_some _ (hH ▸ Heap.get?_push_size _ rfl)
  refine wpAny_bind ?_
  show wpAny _ A.in1 (updateSeq s.heap.objs.size (·.push .none) >>= fun _ => updateSeq s.heap.objs.size (·.pop)) _ _ _
  refine wpAny_bind (wpAny_updateSeq hS1 rfl ?_)
  have hS2 := Heap.get?_update_self (Obj.mapSeq (·.push Value.none)) hS1 rfl
  refine wpAny_updateSeq hS2 rfl ?_
  have hS3 := Heap.get?_update_self (Obj.mapSeq (·.pop)) hS2 rfl
  have oth : ∀ b o, b ≠ s.heap.objs.size → (H.push (itO 0 0 a es.size ep)).get? b = some o →
      (((H.push (itO 0 0 a es.size ep)).update s.heap.objs.size (Obj.mapSeq (·.push Value.none))).update s.heap.objs.size (Obj.mapSeq (·.pop))).get? b = some o :=
    fun b o hb e => (Heap.get?_update_other _ _ (Ne.symm hb)).trans ((Heap.get?_update_other _ _ (Ne.symm hb)).trans e)
  have hIa : a ≠ H.objs.size := by rw [hHs]; exact Nat.ne_of_lt (Nat.lt_succ_of_lt hlt)
  have hIS : H.objs.size ≠ s.heap.objs.size := by rw [hHs]; exact Nat.succ_ne_self _
  have hSf : s.heap.objs.size ∉ [H.objs.size, a] := by
    simp only [List.mem_cons, List.not_mem_nil, or_false, not_or]
    exact ⟨Ne.symm hIS, hSa⟩
  refine wpAny_pure ⟨plainId_quiet F.plain_extend_loop _, codeAny_extend_loopS (walks W (I := H.objs.size) (A := A.in1) (by simp [hh]) hIa).toS hn _ hSf _ es.size 0 _ _ _ rfl (Nat.zero_le _)
    ⟨⟨0, W.zero, oth _ _ hIS (Heap.get?_push_size _ rfl)⟩, oth _ _ (Ne.symm hSa) ha2⟩ hS3 (ItemsOf.nil _) fun s' acc' c' hm hS' hacc => ?_⟩
  show wpAny _ A (load s.heap.objs.size >>= _) _ _ s'
  refine wpAny_bind (wpAny_load hS' ?_)
  have hord : acc'.toList = ord := by
    apply List.ext_getElem?
    intro j
    by_cases hj : j < acc'.size
    · have := hacc.2 j acc'[j] (Array.getElem?_eq_getElem hj)
      rw [this, Array.getElem?_toList, Array.getElem?_eq_getElem hj]
    · have e1 := hacc.1
      rw [List.getElem?_eq_none (by simp; omega), List.getElem?_eq_none (by rw [W.len]; omega)]
  refine wpAny_pure ?_
  rw [hord]
  obtain ⟨h', g', d', tk', os'⟩ := s'
  have eg : g' = s.gens := hm.gens
  have ed : d' = s.drawn := hm.drawn
  have eo : os' = s.os := hm.os
  subst eg; subst ed; subst eo
  refine hQ h' tk' (Heap.lt_size hS') fun b o e => ?_
  have hlb := Heap.lt_size e
  have nb : b ≠ s.heap.objs.size := Nat.ne_of_lt hlb
  have nb2 : b ≠ H.objs.size := by rw [hHs]; exact Nat.ne_of_lt (Nat.lt_succ_of_lt hlb)
  refine hm.heap b o (fun hb => ?_) (oth b o nb (Heap.get?_push_of_some _ (hH ▸ Heap.get?_push_of_some _ e)))
  rcases List.mem_cons.mp hb with h | h
  · exact nb h
  · exact nb2 (List.mem_singleton.mp h)
end
end SW
namespace SW
open PySem PySem.Spec PyProof.Rows
def tb (P : List Nat) (led : Bool) : SetTable := { mask := 7, place := P.toArray, dummies := #[], finger := 0, led := led, moves := 0, plain := true }
def fam1 : List (List Nat) := (List.range 8).map fun a => [a]
def fam2 : List (List Nat) := (List.range 8).flatMap fun a => ((List.range 8).filter fun b => decide (a < b)).map fun b => [a, b]
def fam3 : List (List Nat) := (List.range 8).flatMap fun a => ((List.range 8).filter fun b => decide (a < b)).flatMap fun b => ((List.range 8).filter fun c => decide (b < c)).map fun c => [a, b, c]
def fam : List (List Nat) := [] :: (fam1 ++ fam2 ++ fam3)
def sml : List (List Nat) := [] :: (fam1 ++ fam2)
def stepB (led : Bool) (P : List Nat) (k : Nat) : Bool := match (tb P led).freeSlot (k : Int) with
  | some (s, false) =>
    let P' := (SetTable.insertAt P.toArray (SetTable.below P.toArray s) s).toList
    decide ((tb P led).put s = (tb P' led, SetTable.below P.toArray s)) && fam.contains P' && decide (P'.length = P.length + 1) && decide (SetTable.below P.toArray s ≤ P.length)
  | _ => false
set_option maxHeartbeats 0 in
theorem stepT : (sml.all fun P => (List.range 16).all fun k => stepB true P k) = true := by decide +kernel
set_option maxHeartbeats 0 in
theorem stepF : (sml.all fun P => (List.range 16).all fun k => stepB false P k) = true := by decide +kernel
def walkB (P : List Nat) : Bool := decide (SetTable.below P.toArray 0 = 0) && (List.range P.length).all fun i => decide (SetTable.below P.toArray ((P.toArray.getD i 0) + 1) = i + 1)
set_option maxHeartbeats 0 in
theorem walkOk : (fam.all walkB) = true := by decide +kernel
set_option maxHeartbeats 0 in
theorem fitOk : (fam.all fun P => (tb P true).fits P.length && (tb P false).fits P.length && (decide (P.length = 3) || sml.contains P) && decide (P.length ≤ 3)) = true := by decide +kernel
theorem fit_of {P : List Nat} {led : Bool} (h : P ∈ fam) : (tb P led).fits P.length = true := by
  have := List.all_eq_true.mp fitOk P h
  simp only [Bool.and_eq_true] at this
  cases led
  · exact this.1.1.2
  · exact this.1.1.1
theorem len_of {P : List Nat} (h : P ∈ fam) : P.length ≤ 3 := by
  have := List.all_eq_true.mp fitOk P h
  simp only [Bool.and_eq_true, decide_eq_true_eq] at this
  exact this.2
theorem sml_of {P : List Nat} (h : P ∈ fam) (h2 : P.length ≤ 2) : P ∈ sml := by
  have := List.all_eq_true.mp fitOk P h
  simp only [Bool.and_eq_true, Bool.or_eq_true, decide_eq_true_eq] at this
  rcases this.1.2 with e | e
  · omega
  · simpa using e
theorem step_of {P : List Nat} {led : Bool} {k : Nat} (h : P ∈ fam) (h2 : P.length ≤ 2) (hk : k < 16) : stepB led P k = true := by
  have hm := sml_of h h2
  cases led
  · exact List.all_eq_true.mp (List.all_eq_true.mp stepF P hm) k (List.mem_range.mpr hk)
  · exact List.all_eq_true.mp (List.all_eq_true.mp stepT P hm) k (List.mem_range.mpr hk)
theorem ins_size {α : Type} {xs : Array α} {p : Nat} {x : α} : (SetTable.insertAt xs p x).size = xs.size + 1 := by
  have := (SetTable.insertAt_perm xs p x).length_eq
  simpa using this
theorem lay_of {P : List Nat} {led : Bool} {k : Nat} {es : Array (Int × Value)} {x : Value} (h : P ∈ fam) (h2 : P.length ≤ 2) (hk : k < 16) (hs : es.size = P.length) :
    ∃ P' es', layNew (tb P led) es (k : Int) x = (es', tb P' led, false, false) ∧ P' ∈ fam ∧ es'.size = P'.length ∧ P'.length = P.length + 1 ∧ es'.toList.Perm (es.toList ++ [((k : Int), x)]) := by
  have hb := step_of (led := led) h h2 hk
  unfold stepB at hb
  split at hb
  · rename_i s e
    simp only [Bool.and_eq_true, decide_eq_true_eq] at hb
    obtain ⟨⟨⟨h1, h3⟩, h4⟩, h5⟩ := hb
    generalize hP' : (SetTable.insertAt P.toArray (SetTable.below P.toArray s) s).toList = P' at *
    have hm : P' ∈ fam := by simpa using h3
    have hz : (SetTable.insertAt es (SetTable.below P.toArray s) ((k : Int), x)).size = P'.length := by rw [ins_size, hs, h4]
    have hf : (tb P' led).fits (SetTable.insertAt es (SetTable.below P.toArray s) ((k : Int), x)).size = true := by rw [hz]; exact fit_of hm
    refine ⟨P', SetTable.insertAt es (SetTable.below P.toArray s) ((k : Int), x), ?_, hm, hz, h4, ?_⟩
    · unfold layNew
      rw [e]
      dsimp only
      rw [h1]
      dsimp only
      unfold SetTable.orStandIn
      rw [if_pos hf, hf]
      rfl
    · have := SetTable.insertAt_perm es (SetTable.below P.toArray s) ((k : Int), x)
      rwa [Array.toList_push] at this
  · cases hb
theorem hash16 : ((List.range 16).all fun k => decide (hashInt (k : Int) = (k : Int))) = true := by decide +kernel
theorem hash_of {k : Nat} (h : k < 16) : hashInt (k : Int) = (k : Int) := by
  have := List.all_eq_true.mp hash16 k (List.mem_range.mpr h)
  simpa using this
end SW
namespace SW
open PySem PySem.Spec PyProof.Rows
def pr2 (p : Nat × Nat) : Int × Value := ((p.1 : Int), .int (p.1 : Int) p.2)
def SetI (h : Heap) (a : Addr) (led : Bool) (ks : List Nat) : Prop :=
  ∃ (es : Array (Int × Value)) (ep : Nat) (P : List Nat) (l : List (Nat × Nat)), h.get? a = some (seO es ep (tb P led)) ∧ P ∈ fam ∧ es.size = P.length ∧ es.toList.Perm (l.map pr2) ∧ l.map (·.1) = ks ∧ ∀ k ∈ ks, k < 16
def ded (ks : List Nat) (k : Nat) : List Nat := if k ∈ ks then ks else ks ++ [k]
section
variable {prog : Program} {w : World} {A : Around} {E : Value → Shared → Prop} {s : Shared} {a : Addr} {led : Bool} {ks : List Nat}
theorem elems {es : Array (Int × Value)} {l : List (Nat × Nat)} (hp : es.toList.Perm (l.map pr2)) (h16 : ∀ p ∈ l, p.1 < 16) : ElemsOf (intKind prog w) es.toList := by
  intro e he
  have := hp.mem_iff.mp he
  rw [List.mem_map] at this
  obtain ⟨p, hm, rfl⟩ := this
  refine ⟨⟨(p.1 : Int), by simp [pr2, intKind, Value.isInt], ?_⟩, rfl⟩
  show (p.1 : Int) = hashInt (p.1 : Int)
  rw [hash_of (h16 p hm)]
set_option maxHeartbeats 2000000 in
theorem add_small {k tok : Nat} {Q : Bool → Shared → Prop} (hk : k < 16) (hS : SetI s.heap a led ks) (hl : ks.length ≤ 2 ∨ k ∈ ks)
    (hQ : ∀ b h', Heap.SameBut a s.heap h' → SetI h' a led (ded ks k) → Q b { s with heap := h' }) : wpAny (model prog w) A (setAddHashed a (.int (k : Int) tok) (hashInt (k : Int))) Q E s := by
  obtain ⟨es, ep, P, l, ha, hP, hs, hp, hks, h16⟩ := id hS
  have h16' : ∀ p ∈ l, p.1 < 16 := fun p hm => h16 p.1 (by rw [← hks]; exact List.mem_map_of_mem hm)
  have hel := elems (prog := prog) (w := w) hp h16'
  have hf : (tb P led).fits es.size = true := by rw [hs]; exact fit_of hP
  have h3 := len_of hP
  have hb : es.size < scanBound := by unfold scanBound; omega
  have hkey : (intKind prog w).is (k : Int) (.int (k : Int) tok) = true := by simp [intKind, Value.isInt]
  unfold setAddHashed setAddHashedIn
  refine wpAny_holding (wpAny_bind (wpAny_setState_of ha rfl hf ?_))
  dsimp only
  rw [byScan_of (knd := intKind prog w) (x := .int (k : Int) tok) rfl hb hel]
  simp only [↓reduceIte]
  unfold setAddByScan
  refine wpAny_bind ?_
  refine wpAny_bind (wpAny_rule ?_)
  refine wpAny_bind (wpAny_setScan_of (knd := intKind prog w) (k := (k : Int)) hkey ha rfl hf hel ?_)
  cases hr : List.findIdx? (fun e => (intKind prog w).is (k : Int) e.2) es.toList with
  | some j =>
    dsimp only
    obtain ⟨hj, hpj, _⟩ := List.findIdx?_eq_some_iff_getElem.mp hr
    have hin : k ∈ ks := by
      have := hp.mem_iff.mp (List.getElem_mem hj)
      rw [List.mem_map] at this
      obtain ⟨p, hm, e⟩ := this
      rw [← e] at hpj
      have hh : ((k : Int) == (p.1 : Int)) = true ∨ ((p.1 : Int) == (k : Int)) = true := by
        simp [pr2, intKind, Value.isInt] at hpj
        first | exact .inl (by simpa using hpj) | exact .inr (by simpa using hpj)
      have hkp : k = p.1 := by
        rcases hh with hh | hh
        · have := eq_of_beq hh; omega
        · have := eq_of_beq hh; omega
      rw [hkp, ← hks]
      exact List.mem_map_of_mem hm
    refine wpAny_pure (wpAny_pure ?_)
    have hd : ded ks k = ks := by unfold ded; rw [if_pos hin]
    have e : s = { s with heap := s.heap } := by cases s; rfl
    rw [e]
    exact hQ _ s.heap (Heap.SameBut.refl a s.heap) (by rw [hd]; exact hS)
  | none =>
    dsimp only
    have hnin : ¬ k ∈ ks := by
      intro hin
      rw [← hks, List.mem_map] at hin
      obtain ⟨p, hm, e⟩ := hin
      have hm2 := hp.mem_iff.mpr (List.mem_map_of_mem (f := pr2) hm)
      have := List.findIdx?_eq_none_iff.mp hr _ hm2
      subst e
      simp [pr2, intKind, Value.isInt] at this
    have hl2 : P.length ≤ 2 := by
      have hlen := hp.length_eq
      rcases hl with h | h
      · have : l.length = ks.length := by rw [← hks]; simp
        simp at hlen
        omega
      · exact absurd h hnin
    obtain ⟨P', es', e1, hP', hs', hl', hp'⟩ := lay_of (led := led) (es := es) (x := .int (k : Int) tok) hP hl2 hk hs
    rw [hash_of hk, e1]
    dsimp only
    refine wpAny_bind (wpAny_pure ?_)
    have hpl : (tb P' led).plain = true := rfl
    rw [hpl]
    simp only [if_true]
    refine wpAny_bind ?_
    rw [hashByValue_scannable 8 (x := .int (k : Int) tok) rfl]
    refine wpAny_pure ?_
    have h3' := len_of hP'
    refine wpAny_bind (wpAny_storeSet_of ha rfl ?_ (fits_of_scanBound (by unfold scanBound; omega)))
    have hg : (s.heap.update a (Obj.putSet es' (tb P' led))).get? a = some (seO es' (ep + 1) (tb P' led)) := by
      have := Heap.get?_update_self (Obj.putSet es' (tb P' led)) ha (by rw [putSet_of es' (tb P' led) (o := seO es ep (tb P led)) rfl]; rfl)
      rw [putSet_of es' (tb P' led) (o := seO es ep (tb P led)) rfl] at this
      exact this
    have htf : (tb P' led).tooFull = false := by
      simp only [SetTable.tooFull, SetTable.fill, tb, List.size_toArray]
      have : ¬ ((P'.length + (#[] : Array Nat).size) * 5 ≥ 7 * 3) := by simp; omega
      exact decide_eq_false this
    have hpk : plainKind (.int (k : Int) tok) = true := rfl
    simp only [hpk, if_true, Bool.not_false, Bool.true_and, htf, Bool.false_eq_true, if_false]
    refine wpAny_pure (wpAny_pure (hQ true _ (Heap.SameBut.update s.heap a _) ?_))
    refine ⟨es', ep + 1, P', l ++ [(k, tok)], hg, hP', hs', ?_, ?_, ?_⟩
    · rw [List.map_append]
      exact hp'.trans (hp.append_right _)
    · unfold ded; rw [if_neg hnin, ← hks]; simp
    · intro y hy
      unfold ded at hy
      rw [if_neg hnin] at hy
      rcases List.mem_append.mp hy with hy | hy
      · exact h16 y hy
      · simp at hy; subst hy; exact hk
end
section
variable {prog : Program} {w : World} {A : Around} {R : Result → Shared → Prop} {I : Addr} {fp wr : List Addr} {G : Array GenState → Array GenState → Prop} {n : Nat} {P : Nat → Value → Prop} {St : Nat → Shared → Prop}
def seen (val : Nat → Nat) : Nat → List Nat
  | 0 => []
  | i + 1 => ded (seen val i) (val i)
theorem seen_len (val : Nat → Nat) : ∀ i, (seen val i).length ≤ i
  | 0 => Nat.le_refl _
  | i + 1 => by
    have := seen_len val i
    unfold seen ded
    split
    · omega
    · simp; omega
theorem SetI.at {h h' : Heap} {a : Addr} {led : Bool} {ks : List Nat} (hS : SetI h a led ks) (k : ∀ o, h.get? a = some o → h'.get? a = some o) : SetI h' a led ks := by
  obtain ⟨es, ep, P, l, ha, r⟩ := hS
  exact ⟨es, ep, P, l, k _ ha, r⟩
theorem upd_loop (W : WalksS prog w A.in1 I fp wr G n P St) (S : Addr) (hSf : S ∉ fp) (led : Bool) (val : Nat → Nat) (hv : ∀ i v, P i v → val i < 16 ∧ ∃ t, v = .int (val i : Nat) t) (hn : n ≤ 3) :
    ∀ (k i : Nat) (s : Shared), n - i = k → i ≤ n → St i s → SetI s.heap S led (seen val i) →
      (∀ s', Moved (S :: wr) G s s' → SetI s'.heap S led (seen val n) → R (.ok (.ret .none)) s') →
      codeAny (model prog w) A (.builtin "set.update.loop" ⟨[.ref S, .ref I], []⟩) R s := by
  have hSw : S ∉ wr := fun h => hSf (W.sub _ h)
  have hsub : ∀ b ∈ wr, b ∈ S :: wr := fun b hb => List.mem_cons_of_mem _ hb
  intro k
  induction k with
  | zero =>
    intro i s hk hi hst hS hR
    have hin : i = n := by omega
    subst hin
    refine codeAny_builtin F.entry_set_update_loop ?_
    rw [Around.under_plainId F.plain_set_update_loop _]
    show wpAny _ A.in1 (pyNext (.ref I) >>= _) _ _ s
    refine wpAny_bind (W.done s _ _ hst fun s' hm => ?_)
    exact wpAny_pure (hR s' (hm.mono hsub) (hS.at fun o e => hm.heap S _ hSw e))
  | succ k ih =>
    intro i s hk hi hst hS hR
    have hlt : i < n := by omega
    refine codeAny_builtin F.entry_set_update_loop ?_
    rw [Around.under_plainId F.plain_set_update_loop _]
    show wpAny _ A.in1 (pyNext (.ref I) >>= _) _ _ s
    refine wpAny_bind (W.item i s _ _ hlt hst fun v s' hP hst' hm => ?_)
    obtain ⟨h16, t, rfl⟩ := hv i v hP
    have hS' : SetI s'.heap S led (seen val i) := hS.at fun o e => hm.heap S _ hSw e
    show wpAny _ A.in1 (holding [Value.int (val i : Nat) t] (setAdd S (.int (val i : Nat) t)) >>= _) _ _ s'
    refine wpAny_bind (wpAny_holding ?_)
    unfold setAdd
    refine wpAny_holding ?_
    refine wpAny_bind ((intKind prog w).pyHash (k := (val i : Int)) (intKind_is _ _ _ _) ?_)
    have hr : (seen val i).length ≤ 2 := by have := seen_len val i; omega
    refine add_small (s := { s' with toks := s'.toks + 1 }) h16 hS' (.inl hr) fun b h' hsb hS2 => ?_
    refine wpAny_pure ⟨plainId_quiet F.plain_set_update_loop _, ih (i + 1) _ (by omega) hlt (W.frame _ s' _ _ hst' (Nat.le_succ _) fun b hb o e => ?_) hS2 fun s'' hm'' hS'' => ?_⟩
    · rw [hsb.2 b (fun h : b = S => hSf (by rw [← h]; exact hb))]; exact e
    · refine hR s'' (Moved.trans W.gtrans ((hm.mono hsub).then_heap (Nat.le_succ _) fun b o hb e => ?_) hm'') hS''
      rw [hsb.2 b (fun h : b = S => hb (by rw [h]; exact List.mem_cons_self))]; exact e
end
section
variable {prog : Program} {w : World} {A : Around} {E : Value → Shared → Prop} {s : Shared}
def emp (led : Bool) : Obj := seO #[] 0 (tb [] led)
theorem new_set (a : Value) {Q₁ : Value → Shared → Prop} (h : Q₁ (.ref s.heap.objs.size) { s with heap := s.heap.push (emp (!w.params.followText "set-order")) }) :
    codeAny (model prog w) A (.call (.builtin "set.__new__") ⟨[.type "set", a], []⟩) (wants Q₁ E) s := by
  refine codeAny_of_tree ?_
  show wpAny _ A.in1 (do checkBuiltinCall "set.__new__" ⟨[.type "set", a], []⟩; again (.builtin "set.__new__" ⟨[.type "set", a], []⟩)) _ _ s
  refine wpAny_bind (wpAny_of_eq (F.newCall_set_1 a) (wpAny_pure ⟨plainId_quiet F.plain_set_new _, codeAny_builtin F.entry_set_new ?_⟩))
  rw [Around.under_plainId F.plain_set_new _]
  unfold Builtin.«set.__new__» Builtin.Frozenset.newClass
  have hsub := sub_set_self
  obtain ⟨hp, g, d, tk, os⟩ := s
  dsimp only
  wp_walk
  refine wpAny_askSetting (wpAny_pure ?_)
  dsimp only
  simp only [newObj]
  refine wpAny_bind (wpAny_alloc (wpAny_pure ?_))
  exact wpAny_pure h
theorem emp_is {h : Heap} {a : Addr} {led : Bool} (e : h.get? a = some (emp led)) : SetI h a led [] :=
  ⟨#[], 0, [], [], e, by decide, rfl, List.Perm.refl _, rfl, by simp⟩
end
end SW
namespace SW
open PySem PySem.Spec PyProof.Rows
section
variable {prog : Program} {w : World} {A : Around} {E : Value → Shared → Prop} {s : Shared}
set_option maxHeartbeats 3200000 in
theorem call_set {l : Addr} {items : Array Value} {val : Nat → Nat} {Q : Value → Shared → Prop} (hh : A.handled = none) (hl : s.heap.IsList l items) (hi : ∀ i v, items[i]? = some v → val i < 16 ∧ ∃ t, v = .int (val i : Nat) t) (hb : items.size ≤ 3)
    (h : ∀ (h' : Heap) (tk : Nat), SetI h' s.heap.objs.size (!w.params.followText "set-order") (seen val items.size) → (∀ b o, b < s.heap.objs.size → s.heap.get? b = some o → h'.get? b = some o) → Q (.ref s.heap.objs.size) { s with heap := h', toks := tk }) :
    wpAny (model prog w) A (call (.type "set") [.ref l]) Q E s := by
  generalize hled : (!w.params.followText "set-order") = led at *
  obtain ⟨c, tl, hmro⟩ := F.called_set.mro
  have hmade := F.called_set.made
  have hsub := F.called_set.sub
  refine wpAny_call (codeAny_of_tree ?_); show wpAny _ _ (callAny (.type "set") _) _ _ _
  refine wpAny_pure ⟨Code.quiet_builtin _ (by decide +kernel), codeAny_builtin F.entry_type_call ?_⟩; rw [Around.under_plain (weight_type_call_type "set" [.ref l] []) rfl]
  have h1 := F.called_set.notType
  have h2 := F.called_set.canCreate
  have hct := F.typeCall_set_1 (.ref l)
  repeat (any_goals (first | assumption | wp_step))
  refine codeAny_mono (new_set (.ref l) (E := E) (Q₁ := fun obj s₁ => obj = .ref s.heap.objs.size ∧ s₁ = { s with heap := s.heap.push (emp led) }) ⟨rfl, by rw [hled]⟩) fun r s₁ hr => ?_
  cases r with
  | error e => exact hr
  | ok fl =>
    cases fl with
    | ret obj =>
      obtain ⟨rfl, rfl⟩ := hr
      have hS : (s.heap.push (emp led)).get? s.heap.objs.size = some (emp led) := Heap.get?_push_size _ rfl
      have hT : Shared.TypeIs { s with heap := s.heap.push (emp led) } (.ref s.heap.objs.size) "set" := ⟨_, hS, rfl⟩
      have hli := F.called_set.init.lookup
      have hbi := F.called_set.init.bind (.ref s.heap.objs.size)
      repeat (any_goals (first | assumption | wp_step))
      refine codeAny_mono (codeAny_call_builtin (R := wants (fun r s₂ => r = .none ∧ ∃ h' tk, s₂ = { s with heap := h', toks := tk } ∧ SetI h' s.heap.objs.size led (seen val items.size) ∧
          (∀ b o, b < s.heap.objs.size → s.heap.get? b = some o → h'.get? b = some o)) E) F.called_set.init.plain F.entry_set_init (check_set_init_1 hT ?_)) fun r₂ s₂ hr₂ => ?_
      · obtain ⟨ol, hol, hcl, nl, hdl⟩ := hl
        obtain ⟨ocls, odict, odata, oslots⟩ := ol
        simp only at hcl hdl
        subst hcl; subst hdl
        have hol' : (s.heap.push (emp led)).get? l = some { cls := .type "list", dict := odict, data := .seq items nl, slots := oslots } := Heap.get?_push_of_some _ hol
        have hsls := F.sub_list_set
        have hslf := F.sub_list_frozenset
        have hne : (Value.type "list" == Value.type "dict") = false := by decide
        have hl1 : (s.heap.push (emp led)).IsList l items := ⟨_, hol', rfl, nl, rfl⟩
        unfold Builtin.«set.__init__» noKeywords Builtin.Frozenset.updateFrom
        generalize hPI : pyIter = PI
        wp_walk
        subst hPI
        refine wpAny_pyIter_list hl1 ?_
        refine wpAny_bind (wpAny_runValue ?_)
        have hlS : l < s.heap.objs.size := Heap.lt_size hol
        have hh3 : A.in1.in1.in1.handled = none := by simp [hh]
        have hneI : l ≠ (s.heap.push (emp led)).objs.size := by
          rw [Heap.size_push]; exact Nat.ne_of_lt (Nat.lt_succ_of_lt hlS)
        have hSf : s.heap.objs.size ∉ [(s.heap.push (emp led)).objs.size, l] := by
          rw [Heap.size_push]; simp only [List.mem_cons, List.mem_singleton, List.not_mem_nil, or_false, not_or]
          exact ⟨Nat.ne_of_lt (Nat.lt_succ_self _), Nat.ne_of_gt hlS⟩
        refine upd_loop ((Walks.list hh3 _ l hneI items).toS) s.heap.objs.size hSf led val hi hb (items.size - 0) 0 _ (by omega) (Nat.zero_le _) ⟨⟨_, Heap.get?_push_size _ rfl, rfl, rfl⟩, (hl1.push _)⟩ ?hS0 ?hR
        case hS0 => exact emp_is (Heap.get?_push_of_some _ hS)
        case hR =>
          intro s' hm hS'
          obtain ⟨h', g', d', tk', os'⟩ := s'
          have eg : g' = s.gens := hm.gens
          have ed : d' = s.drawn := hm.drawn
          have eo : os' = s.os := hm.os
          subst eg; subst ed; subst eo
          show wpAny _ _ _ _ _ _
          refine wpAny_pure ?_
          show wpAny _ _ (ret Value.none) _ _ _
          have ht : ∀ b o, b < s.heap.objs.size → s.heap.get? b = some o → h'.get? b = some o := fun b o hb e => by
            have q1 : b ≠ s.heap.objs.size := Nat.ne_of_lt hb
            have q2 : b ≠ (s.heap.push (emp led)).objs.size := by rw [Heap.size_push]; exact Nat.ne_of_lt (Nat.lt_succ_of_lt hb)
            exact hm.heap b o (by simp only [List.mem_cons, List.not_mem_nil, or_false, not_or]; exact ⟨q1, q2⟩) (Heap.get?_push_of_some _ (Heap.get?_push_of_some _ e))
          exact wpAny_pure ⟨rfl, h', tk', rfl, hS', ht⟩
      · cases r₂ with
        | error e => exact hr₂
        | ok fl₂ =>
          cases fl₂ with
          | ret r =>
            obtain ⟨rfl, h', tk, rfl, hq1, hq2⟩ := hr₂
            repeat (any_goals (first | assumption | wp_step))
            exact h _ _ hq1 hq2
          | _ => exact hr₂.elim
    | _ => exact hr.elim
end
end SW
namespace SW
open PySem PySem.Spec PyProof.Rows
def zs (ks : List Nat) : List Int := ks.map fun (k : Nat) => (k : Int)
theorem ints_of : ∀ l : List (Nat × Nat), IntsAre (l.map fun p => (pr2 p).2) (l.map fun p => (p.1 : Int))
  | [] => .nil
  | p :: l => .cons _ _ (ints_of l)
theorem ints_perm {vs us : List Value} (hp : vs.Perm us) : ∀ {ns : List Int}, IntsAre us ns → ∃ ms, IntsAre vs ms ∧ ms.Perm ns := by
  induction hp with
  | nil => intro ns h; exact ⟨ns, h, List.Perm.refl _⟩
  | cons x _ ih =>
    intro ns h
    cases h with
    | cons n t hr =>
      obtain ⟨ms, h1, h2⟩ := ih hr
      exact ⟨n :: ms, .cons _ _ h1, h2.cons n⟩
  | swap x y l =>
    intro ns h
    cases h with
    | cons n t hr =>
      cases hr with
      | cons m u hr2 => exact ⟨m :: n :: _, .cons _ _ (.cons _ _ hr2), List.Perm.swap _ _ _⟩
  | trans _ _ ih1 ih2 =>
    intro ns h
    obtain ⟨ms, h1, h2⟩ := ih2 h
    obtain ⟨ms', h3, h4⟩ := ih1 h1
    exact ⟨ms', h3, h4.trans h2⟩
section
variable {prog : Program} {w : World} {A : Around} {E : Value → Shared → Prop} {s : Shared} {a : Addr} {ks : List Nat}
theorem place_get {P : List Nat} {i j : Nat} (h : P.toArray[i]? = some j) : i < P.length ∧ P.toArray.getD i 0 = j := by
  have h' : P[i]? = some j := by simpa using h
  obtain ⟨hl, e⟩ := List.getElem?_eq_some_iff.mp h'
  exact ⟨hl, by simp [hl, e]⟩
theorem way_of (hS : SetI s.heap a (!w.params.followText "set-order") ks) : ∃ es ep t ord ok ms, s.heap.get? a = some (seO es ep t) ∧ Way prog w a es ep t ord ok ∧ (w.params.followText "set-order" = true ∨ t.plain = true) ∧ es.size ≤ 3 ∧ IntsAre ord ms ∧ ms.Perm (zs ks) := by
  obtain ⟨es, ep, P, l, ha, hP, hs, hp, hks, h16⟩ := hS
  have hf : (tb P (!w.params.followText "set-order")).fits es.size = true := by rw [hs]; exact fit_of hP
  have h3 := len_of hP
  have hv : (es.toList.map (·.2)).Perm (l.map fun p => (pr2 p).2) := by
    have := hp.map (·.2)
    rwa [List.map_map] at this
  have hm : l.map (fun p => (p.1 : Int)) = zs ks := by unfold zs; rw [← hks, List.map_map]; rfl
  cases hb : w.params.followText "set-order" with
  | true =>
    rw [hb] at ha hf
    obtain ⟨ms, h1, h2⟩ := ints_perm (((pick_perm (w.params.setOrder a ep) es).map (·.2)).trans hv) (ints_of l)
    exact ⟨es, ep, _, _, _, ms, ha, wayT hf hb, .inl rfl, by omega, h1, by rw [← hm]; exact h2⟩
  | false =>
    rw [hb] at ha hf
    obtain ⟨ms, h1, h2⟩ := ints_perm hv (ints_of l)
    have hw := List.all_eq_true.mp walkOk P hP
    unfold walkB at hw
    rw [Bool.and_eq_true, decide_eq_true_eq, List.all_eq_true] at hw
    refine ⟨es, ep, _, _, _, ms, ha, wayL hf hb rfl rfl (by simpa [tb] using hs.symm) hw.1 (fun i j hj => ?_), .inr rfl, by omega, h1, by rw [← hm]; exact h2⟩
    obtain ⟨hl, e⟩ := place_get hj
    have := hw.2 i (List.mem_range.mpr hl)
    rw [e] at this
    exact of_decide_eq_true this
theorem sorted_set {Q : Value → Shared → Prop} (hh : A.handled = none) (hS : SetI s.heap a (!w.params.followText "set-order") ks)
    (h : ∀ (h' : Heap) (tk L c : Nat) (out : Array Value), (∀ b o, s.heap.get? b = some o → h'.get? b = some o) → s.heap.objs.size ≤ L → h'.get? L = some (seqObj "list" out c) → IntsAre out.toList (PySem.W.sortI (zs ks)) → Q (.ref L) { s with heap := h', toks := tk }) :
    wpAny (model prog w) A (call (.builtin "sorted") [.ref a]) Q E s := by
  obtain ⟨es, ep, t, ord, ok, ms, ha, W, hd, h3, hI, hp⟩ := way_of (prog := prog) hS
  refine Calls.call_function_entry kind_sorted plain_sorted entry_sorted (args_sorted1 _) ?_
  unfold Builtin.«sorted»
  refine wpAny_bind (m := checkCount "sorted" 1 1 _) (wpAny_pure ?_)
  have hs4 : es.size ≤ sizeLine := by rw [sizeLine_eq]; omega
  refine wpAny_bind (collect_set W (by simp [hh]) ha hd hs4 fun h1 tk1 sz1 k1 => ?_)
  refine wpAny_bind (wpAny_newList ?_ (by rw [W.len]; exact hs4))
  have hl : ord.length < 64 := by rw [W.len]; omega
  have hoL : (h1.push (seqObj "list" ord.toArray 0)).get? h1.objs.size = some (seqObj "list" ord.toArray 0) := Heap.get?_push_size _ rfl
  refine wpAny_bind (wpAny_holding (wpAny_call_entry slot_list_sort ⟨_, hoL, rfl⟩ entry_list_sort (list_sort_tree hoL hI hl fun out ns' a1 a2 a3 => ⟨_, rfl, ?_⟩) (args_list_sort _)))
  have e := PySem.W.eq_sortI (a2.trans hp) a3
  subst e
  obtain ⟨c, hc⟩ := sortedHeap_at (out := out) hoL
  refine wpAny_pure ⟨_, rfl, h _ _ h1.objs.size c out (fun b o q => ?_) (Nat.le_of_lt sz1) hc a1⟩
  have q1 := k1 b o q
  have q2 := Heap.lt_size q1
  rw [sortedHeap_old (Nat.ne_of_lt q2) (by rw [Heap.size_push]; exact Nat.lt_succ_of_lt q2)]
  exact Heap.get?_push_of_some _ q1
end
end SW
namespace L3
open PySem PySem.Spec PyProof.Rows L2
def once (ns : List Int) : List Int := SW.zs (SW.seen (fun i => (ns.getD i 0).toNat) ns.length)
def small16 (ns : List Int) : Bool := decide (ns.length ≤ 3) && ns.all fun n => decide (0 ≤ n) && decide (n < 16)
def fSSet (fe : FE) : FE := fun σ g => (fe σ g).bind fun r => (lstOf r.1 r.2).bind fun xs => (intsD xs).bind fun ns => if small16 ns = true then some (.lst ((PySem.W.sortI (once ns)).map .int), r.2) else none
section
variable {X : Cx}
theorem ints_at : ∀ {vs : List Value} {ns : List Int}, IntsAre vs ns → (∀ n ∈ ns, 0 ≤ n ∧ n < 16) → ∀ (i : Nat) (v : Value), vs[i]? = some v → (ns.getD i 0).toNat < 16 ∧ ∃ t, v = .int (((ns.getD i 0).toNat : Nat) : Int) t
  | _, _, .nil, _, i, v, h => by simp at h
  | _, _, .cons n t hr, hn, 0, v, h => by
    simp at h
    have := hn n (by simp)
    refine ⟨by simp; omega, t, ?_⟩
    rw [← h]
    simp
    omega
  | _, _, .cons n t hr, hn, i + 1, v, h => by
    simp only [List.getElem?_cons_succ] at h
    obtain ⟨q, t', e⟩ := ints_at hr (fun m hm => hn m (by simp [hm])) i v h
    exact ⟨by simpa using q, t', by rw [e]; simp⟩
theorem de_sset {e : Expr} {fe : FE} {p1 p2 pos1 pos2 : Pos} (hh : X.A.handled = none) (hms : X.mg "sorted" = none) (hmt : X.mg "set" = none) (he : DE X e fe) (hgs : Gl X "sorted" := by rfl) (hgt : Gl X "set" := by rfl)
    (hi1 : starEach [Expr.Call (.Name "set" p2) [e] [] pos2] X.env = (false, eval (.Call (.Name "set" p2) [e] [] pos2) X.env) :: starEach [] X.env := by rfl) (hi2 : starEach [e] X.env = (false, eval e X.env) :: starEach [] X.env := by rfl) :
    DE X (.Call (.Name "sorted" p1) [.Call (.Name "set" p2) [e] [] pos2] [] pos1) (fSSet fe) := .of (by
  intro pins s σ H Q I h
  obtain ⟨ι, σd, g, d, g', G0, S0, h, p⟩ := h
  obtain ⟨⟨d1, g1⟩, h1, h⟩ := bind_some h
  obtain ⟨xs, hx, h⟩ := bind_some h
  obtain ⟨ns, hn, h⟩ := bind_some h
  dsimp only at hx h
  split at h
  · rename_i hsm
    cases h
    unfold small16 at hsm
    rw [Bool.and_eq_true, decide_eq_true_eq, List.all_eq_true] at hsm
    have hns : ∀ n ∈ ns, 0 ≤ n ∧ n < 16 := fun n hm => by
      have := hsm.2 n hm
      rw [Bool.and_eq_true, decide_eq_true_eq, decide_eq_true_eq] at this
      exact this
    have arg := (pa_cons he.un pa_nil hi2) pos2 pins s σ H (fun vs H1 => ∃ ι1 a us, vs = [.ref a] ∧ SqL X.K H1 a us ∧ RelL X.K H1 ι1 xs us ∧ Ext H ι H1 ι1 ∧ RelG X.K H1 ι1 g') I (tD.bind G0 S0 h1 fun H1 ι1 v e1 G1 S1 r1 => by
      obtain ⟨a, us, rfl, hq, hr⟩ := lstOf_sq G1 r1 hx
      exact ⟨ι1, a, us, rfl, hq, hr, e1, G1⟩)
    refine wpAny_Call_Name_kw (ld_blt I hgs hms (u := .builtin "sorted") rfl ?_ (by decide) (by decide))
    refine PyProof.Rows.callWith_builtin1 ?_ hi1 rfl
    rw [hi1]
    show wpAny _ _ (spliced ((false, eval (.Call (.Name "set" p2) [e] [] pos2) X.env) :: backTo pos1 (starEach [] X.env))) _ _ s
    refine Calls.spliced_cons ?_
    refine wpAny_Call_Name_kw (ld_blt I hgt hmt (u := .type "set") rfl ?_ (by decide) (by decide))
    refine PyProof.Rows.callWith_type1 (thn arg fun us1 s1 q1 => ?_) hi2 rfl
    obtain ⟨vs, H1, I1, rv, ι1, a, us, rfl, hq, hr, e1, G1⟩ := q1
    obtain ⟨u, rfl, ru⟩ := rv.one
    cases ru
    obtain ⟨its, rits, pl, hz⟩ := I1.list hq
    have hA := intsD_are hn hr rits
    have hl3 : its.length = ns.length := by
      obtain ⟨ps, rfl, rfl⟩ := ints_items hA
      simp
    refine SW.call_set (val := fun i => (ns.getD i 0).toNat) hh pl.isList (fun i v hv => ints_at hA hns i v (by simpa using hv)) (by rw [List.size_toArray, hl3]; exact hsm.1) fun h2 tk2 hS2 k2 => ?_
    have hsz : its.toArray.size = ns.length := by rw [List.size_toArray]; exact hl3
    rw [hsz] at hS2
    refine Calls.spliced_nil ?_
    have kk : ∀ b o, s1.heap.get? b = some o → h2.get? b = some o := fun b o q => k2 b o (Heap.lt_size q) q
    have I2 : Inv X pins σ H1 { s1 with heap := h2, toks := tk2 } := I1.kept kk
    refine SW.sorted_set (s := { s1 with heap := h2, toks := tk2 }) hh hS2 fun h3 tk3 L c out k3 hL hc hO => ?_
    have hfr := I2.hok.fresh hL
    have hlo : ((PySem.W.sortI (once ns)).map V.int).length ≤ sizeLine := by
      have hp := PySem.W.sortI_perm (once ns)
      rw [List.length_map, hp.length_eq]
      have : (once ns).length ≤ 3 := by
        unfold once SW.zs
        rw [List.length_map]
        exact Nat.le_trans (SW.seen_len _ _) hsm.1
      rw [sizeLine_eq]
      omega
    refine ⟨.ref L, _, I2.laid (t' := tk3) (fun b o q => k3 b o q) hL (show ObjOk X.prog X.w _ _ _ (.lst ((PySem.W.sortI (once ns)).map V.int)) from ⟨hlo, out.toList, c, vals_ints hO, by simpa [seqObj] using hc⟩), rfl, ?_⟩
    refine p _ _ _ (e1.trans (Ext.lay hfr)) (G1.lay hfr) ?_
    simp only [Rel]
    exact ⟨_, _, rfl, .inl ⟨.inl upd_same, G1.fresh hfr, G1.freshH hfr⟩, relL_intsD _⟩
  · cases h)
end
@[simp] theorem ev_fSSet {fe : FE} {σ : Sg} {g : G} : fSSet fe σ g = (fe σ g).bind fun r => (lstOf r.1 r.2).bind fun xs => (intsD xs).bind fun ns => if small16 ns = true then some (.lst ((PySem.W.sortI (once ns)).map .int), r.2) else none := rfl
end L3
namespace L3
open PySem PySem.Spec PyProof.Rows L2
section
variable {X : Cx}
end
end L3
namespace TL
open PySem PySem.Spec PySem.SeqAt PyProof.Rows
open AutoSeq1 (wpAny_loadPart')
open MeetsSeq MeetsSeq2 MeetsSeq3 SeqRoads2
def LtAt (A : Around) (s : Shared) (y x : Value) (b : Bool) : Prop :=
  ∀ (prog : Program) (w : World) (E : Value → Shared → Prop) (Q : Value → Shared → Prop), Q (.bool b) s → wpAny (model prog w) A (richCompare .Lt y x) Q E s
inductive Lex (A : Around) (s : Shared) (fin : Bool) : List (Value × Value) → Bool → Prop
  | nil : Lex A s fin [] fin
  | eq {p q r k} : EqAt A s p q true → Lex A s fin r k → Lex A s fin ((p, q) :: r) k
  | ne {p q r k} : EqAt A s p q false → LtAt A s p q k → Lex A s fin ((p, q) :: r) k
section
variable {A : Around} {s : Shared}
end
open PySem.W
section
variable {prog : Program} {w : World} {A : Around} {E : Value → Shared → Prop} {s : Shared}
end
end TL
namespace L3
open PySem PySem.Spec PyProof.Rows L2
section
variable {X : Cx} {pins : List (Addr × Obj)} {σ : L2.St} {H : Hp} {s : Shared} {ι : Ix}
end
section
variable {σ : Sg} {g : G}
end
end L3
namespace L3
open PySem PySem.Spec PyProof.Rows L2
def compLR (nn L : Nat) (t : FG) (c : FT) (e : FE) : Nat → Sg → G → Option (List D × G)
  | 0, _, g => (g[nn]?).bind fun xs => if xs.length = L then some ([], g) else none
  | r + 1, σ, g => (g[nn]?).bind fun xs => if xs.length = L then (xs[L - (r + 1)]?).bind fun d => (t d σ g).bind fun q => (c q.1 q.2).bind fun k => if k.1 = true then (e q.1 k.2).bind fun r' => (compLR nn L t c e r q.1 r'.2).bind fun z => some (r'.1 :: z.1, z.2) else compLR nn L t c e r q.1 k.2 else none
theorem compLR_zero {nn L : Nat} {t : FG} {c : FT} {e : FE} {σ : Sg} {g g' : G} {all : List D} (h : compLR nn L t c e 0 σ g = some (all, g')) : ∃ xs, g[nn]? = some xs ∧ xs.length = L ∧ all = [] ∧ g' = g := by
  simp only [compLR] at h
  obtain ⟨xs, hx, h⟩ := bind_some h
  split at h
  · rename_i z
    cases h
    exact ⟨xs, hx, z, rfl, rfl⟩
  · cases h
theorem compLR_succ {nn L r : Nat} {t : FG} {c : FT} {e : FE} {σ : Sg} {g : G} {o : List D × G} (h : compLR nn L t c e (r + 1) σ g = some o) : ∃ xs d, g[nn]? = some xs ∧ xs.length = L ∧ xs[L - (r + 1)]? = some d ∧ ((t d σ g).bind fun q => (c q.1 q.2).bind fun k => if k.1 = true then (e q.1 k.2).bind fun r' => (compLR nn L t c e r q.1 r'.2).bind fun z => some (r'.1 :: z.1, z.2) else compLR nn L t c e r q.1 k.2) = some o := by
  simp only [compLR] at h
  obtain ⟨xs, hx, h⟩ := bind_some h
  split at h
  · rename_i z
    obtain ⟨d, hd, h⟩ := bind_some h
    exact ⟨xs, d, hx, z, hd, h⟩
  · cases h
abbrev FIR := Sg → G → Option (Nat × Nat × G)
def ItOkR (K : PySem.W.Frag) (J : It) (H : Hp) (ι : Ix) (nn L : Nat) : Prop :=
  ∀ (i : Nat) H1 ι1 g1, Exh H ι H1 ι1 → RelG K H1 ι1 g1 → ∀ xs, g1[nn]? = some xs → xs.length = L → (L ≤ i → J.stop i H1) ∧ ∀ d, xs[i]? = some d → J.go i H1 ∧ ∀ x H2, J.yld i H1 x H2 → Ext H1 ι1 H2 ι1 ∧ RelG K H2 ι1 g1 ∧ Rel K H2 ι1 d x
inductive tDIR (K : PySem.W.Frag) (f : FIR)  (σ : L2.St) (H : Hp) (R : (It → Hp → Prop)) : Prop
  | mk (ι : Ix) (σd : Sg) (g : G) (nn : Nat) (L : Nat) (g' : G) (h0 : RelG K H ι g) (h1 : RelS K H ι σd σ) (h2 : f σd g = some (nn, L, g')) (h3 : ∀ H' ι' J, Ext H ι H' ι' → RelG K H' ι' g' → ItOkR K J H' ι' nn L → R J H') : tDIR K f σ H R
structure DIR (X : Cx) (tg iter : Expr) (f : FIR) : Prop where of ::
  un : PI X tg iter (tDIR X.K f)
def iRef (f : FE) : FIR := fun σ g => (f σ g).bind fun r => match r.1 with | .ref n => (r.2[n]?).bind fun xs => some (n, xs.length, r.2) | _ => none
theorem ItOkR.ref {K H ι a n L} (h : ι.ix[n]? = some a) : ItOkR K (Itl K a) H ι n L := fun i H1 ι1 g1 e1 G1 xs hx hl => by
  obtain ⟨a', vs, ha, hv, hr⟩ := G1.at_ n xs hx
  have := e1.at h
  rw [ha] at this
  cases this
  have hq : SqL K H1 a vs := .inl (.inl hv)
  refine ⟨fun h => ⟨vs, hq, by rw [← hr.length]; omega⟩, fun d hd => ?_⟩
  obtain ⟨v, hv', rv⟩ := hr.get hd
  refine ⟨⟨vs, v, hq, hv'⟩, fun x H2 y => ?_⟩
  obtain ⟨rfl, y⟩ := y
  have := y vs hq
  rw [hv'] at this; cases this
  exact ⟨Ext.refl, G1, rv⟩
theorem dir_ref {X : Cx} {tg l : Expr} {fe : FE} (hl : DE X l fe) : DIR X tg l (iRef fe) := .of (PI.imp (pi_list hl.un) fun σ H Q h => by
  obtain ⟨ι, σd, g, nn, L, g', G0, S0, h, p⟩ := h
  obtain ⟨⟨d1, g1⟩, h1, h⟩ := bind_some h
  cases d1 with
  | ref n =>
    obtain ⟨xs, hx, h⟩ := bind_some h
    cases h
    refine tD.bind G0 S0 h1 fun H1 ι1 v e1 G1 S1 r1 => ?_
    simp only [Rel] at r1
    obtain ⟨a, rfl, ha⟩ := r1
    obtain ⟨a', vs, ha', hv, hr⟩ := G1.at_ _ xs hx
    rw [ha] at ha'
    cases ha'
    exact ⟨a, rfl, ⟨vs, .inl (.inl hv)⟩, p H1 ι1 _ e1 G1 (.ref ha)⟩
  | _ => cases h)
inductive CompIR (X' : Cx) (t : FG) (c : FT) (e : FE) (fp : List Addr) (Dl : Addr) (tn : Nat → Heap → Prop) (nn L : Nat) (all : List D) (H1 : Hp) (ι1 : Ix) (g' : G) (n : Nat) (s : Shared) : Prop
  | mk (i : Nat) (σ : L2.St) (H : Hp) (ιo : Ix) (σd : Sg) (g : G) (vs : List V) (acc more : List D) (hn : n = L + 1 - i) (hil : i ≤ L) (I : Inv X' [] σ H s) (ti : tn i s.heap) (fri : ∀ b ∈ fp, H b = none) (E1 : Ext H1 ι1 H ιo) (G1 : RelG X'.K H (Ix.hide ιo Dl) g) (S1 : RelS X'.K H (Ix.hide ιo Dl) σd σ)
      (hHD : H Dl = some (.lst vs)) (racc : RelL X'.K H (Ix.hide ιo Dl) acc vs) (hal : acc.length ≤ i) (hf : compLR nn L t c e (L - i) σd g = some (more, g')) (ea : all = acc ++ more) : CompIR X' t c e fp Dl tn nn L all H1 ι1 g' n s
theorem compR_loop {X' : Cx} {tg iter elt : Expr} {ifs : List Expr} {scope : Scope} {pos : Pos} {t : FG} {c : FT} {e : FE} {J : It} {fp : List Addr} {it Dl : Addr} {tn : Nat → Heap → Prop} {all : List D} {nn L : Nat} {H1 : Hp} {ι1 : Ix} {g' : G} {R : Result → Shared → Prop}
    (hxe : X'.xe = fun _ _ => False) (hc : X'.calm = true) (T : Turn X'.prog X'.w X'.K tg J fp it tn) (hfp : ∀ b ∈ fp, FpOk X' [] X'.H₀ b) (J1 : ItOkR X'.K J H1 ι1 nn L) (hD : H1 Dl = none) (hz : L ≤ sizeLine)
    (hg : DG X' tg t) (hi : DIfs X' ifs c) (he : DE X' elt e)
    (fin : ∀ s' σ' H' ιo vs, Inv X' [] σ' H' s' → (∀ b ∈ fp, H' b = none) → Ext H1 ι1 H' ιo → RelG X'.K H' (Ix.hide ιo Dl) g' → H' Dl = some (.lst vs) → RelL X'.K H' (Ix.hide ιo Dl) all vs → R (.ok .next) s') :
    ∀ (s : Shared) (σ : L2.St) (H : Hp) (ιo : Ix) (σd : Sg) (g : G), Inv X' [] σ H s → tn 0 s.heap → (∀ b ∈ fp, H b = none) → Ext H1 ι1 H ιo → RelG X'.K H (Ix.hide ιo Dl) g → RelS X'.K H (Ix.hide ιo Dl) σd σ → H Dl = some (.lst []) → compLR nn L t c e L σd g = some (all, g') →
      codeAny (model X'.prog X'.w) X'.A (.compLoop (.ListComp elt [⟨tg, iter, ifs, 0⟩] scope pos) 0 (.ref it) (.ref Dl) X'.env) R s := by
  intro s σ H ιo σd g I t0 fr0 E0 G0 S0 hH hf0
  have stat : ∀ {H' : Hp}, (∀ b ∈ fp, H' b = none) → ∀ b ∈ fp, FpOk X' [] H' b := fun hn b hb => ⟨hn b hb, (hfp b hb).2⟩
  refine codeAny_loop rfl (CompIR X' t c e fp Dl tn nn L all H1 ι1 g') ?_ (L + 1)
    ⟨0, σ, H, ιo, σd, g, [], [], all, rfl, Nat.zero_le _, I, t0, fr0, E0, G0, S0, hH, by simp [RelL], Nat.le_refl _, by simpa using hf0, rfl⟩
  clear hf0 hH S0 G0 E0 fr0 t0 I g σd ιo H σ s
  rintro n s ⟨i, σ, H, ιo, σd, g, vs, acc, more, rfl, hil, I, ti, fri, E1, G1, S1, hHD, racc, hal, hf, rfl⟩
  show wpAny _ X'.A ((compTurn (.ListComp elt [⟨tg, iter, ifs, 0⟩] scope pos) 0 (.ref it) (.ref Dl) X'.env).onRaise (fun x => do noteFrame x X'.env; theTreesLotGoes x)) _ _ s
  refine wpAny_noted ?_
  rw [compTurn_list]
  refine wpAny_bind (wpAny_standAt (wpAny_bind ?_))
  have j1 := J1 i H (Ix.hide ιo Dl) g (E1.exhH hD) G1
  by_cases hlt : i < L
  · rw [show L - i = (L - (i + 1)) + 1 by omega] at hf
    obtain ⟨xs, d0, hxs, hxl, hd0, hf⟩ := compLR_succ hf
    rw [show L - (L - (i + 1) + 1) = i by omega] at hd0
    obtain ⟨st, go⟩ := j1 xs hxs hxl
    obtain ⟨go, yl⟩ := go d0 hd0
    refine thn (T.item X' rfl rfl rfl hc i [] s σ H _ I (stat fri) ti go) fun r s4 ⟨u, hr, h4⟩ => ?_
    subst hr
    refine wpAny_bind (thn h4 fun _ s5 ⟨x, H5, I5, r5, y5, t5, fr5⟩ => ?_)
    obtain ⟨e5, G5, rd5⟩ := yl x H5 y5
    obtain ⟨⟨σ6, g6⟩, h6, hf⟩ := bind_some hf
    obtain ⟨⟨k7, g7⟩, h7, hf⟩ := bind_some hf
    have I5' := I5.pinned (stat fr5) (T.obj _ _ t5)
    have lift : ∀ {α : Type} {tr : Sem α} {Q : α → Shared → Prop} {E : Value → Shared → Prop} {s : Shared}, wpAny (model X'.prog X'.w) X'.A tr Q X'.xe s → wpAny (model X'.prog X'.w) X'.A tr Q E s := fun h => wpAny_mono h (fun _ _ q => q) fun _ _ z => by rw [hxe] at z; exact z.elim
    have again : ∀ {s9 : Shared} {σ9 : L2.St} {H9 : Hp} {ι9 : Ix} {σd9 : Sg} {g9 : G} {vs9 : List V} {acc9 : List D} {more9 : List D}, Inv X' ([] ++ pinsAt fp s5.heap) σ9 H9 s9 → Ext H1 ι1 H9 ι9 → RelG X'.K H9 (Ix.hide ι9 Dl) g9 → RelS X'.K H9 (Ix.hide ι9 Dl) σd9 σ9 →
        H9 Dl = some (.lst vs9) → RelL X'.K H9 (Ix.hide ι9 Dl) acc9 vs9 → acc9.length ≤ i + 1 → compLR nn L t c e (L - (i + 1)) σd9 g9 = some (more9, g') → acc ++ more = acc9 ++ more9 →
        ∃ m, m < L + 1 - i ∧ CompIR X' t c e fp Dl tn nn L (acc ++ more) H1 ι1 g' m s9 := by
      intro s9 σ9 H9 ι9 σd9 g9 vs9 acc9 more9 I9 E9 G9 S9 h9 r9 l9 f9 a9
      refine ⟨L + 1 - (i + 1), by omega, i + 1, σ9, H9, ι9, σd9, g9, vs9, acc9, more9, rfl, hlt, I9.unpinned, T.keep _ _ _ t5 fun b hb o e => (I9.pin (b, o) (List.mem_append_right _ (List.mem_append_right _ (mem_pinsAt hb e)))).1, fun b hb => ?_, E9, G9, S9, h9, r9, l9, f9, a9⟩
      obtain ⟨o, e, d⟩ := T.obj _ _ t5 b hb
      exact (I9.pin (b, o) (List.mem_append_right _ (List.mem_append_right _ (mem_pinsAt hb e)))).2.1
    refine wpAny_bind (lift (thn (hg.un _ s5 σ H5 x u (fun σ' H' => ∃ ι6, Ext H5 (Ix.hide ιo Dl) H' ι6 ∧ RelG X'.K H' ι6 g6 ∧ RelS X'.K H' ι6 σ6 σ') I5' r5 ⟨Ix.hide ιo Dl, σd, g, d0, σ6, g6, G5, S1.ext e5, rd5, h6, fun H6 ι6 σ6' e6 G6 S6 => ⟨ι6, e6, G6, S6⟩⟩) fun _ s6 q6 => ?_))
    obtain ⟨σ6', H6, I6, ι6, e6, G6, S6⟩ := q6
    refine wpAny_bind (lift (thn (hi.un _ s6 σ6' H6 (fun b H' => b = k7 ∧ ∃ ι7, Ext H6 ι6 H' ι7 ∧ RelG X'.K H' ι7 g7) I6 ⟨ι6, σ6, g6, k7, g7, G6, S6, h7, fun H7 ι7 e7 G7 => ⟨rfl, ι7, e7, G7⟩⟩) fun ok s7 q7 => ?_))
    obtain ⟨H7, I7, rfl, ι7, e7, G7⟩ := q7
    have e57 := (e5.trans e6).trans e7
    obtain ⟨E7, ei7⟩ := E1.hideT e57
    have hD7 : H7 Dl = some (.lst vs) := e57.same Dl _ hHD (G1.hid Dl List.mem_cons_self).1
    have r7 := RelL.ext e57 _ racc
    have S7 := S6.ext e7
    cases ok with
    | false =>
      simp only [Bool.false_eq_true, if_false] at hf
      refine wpAny_pure ⟨rfl, ?_⟩
      rw [ei7] at G7 S7 r7
      exact again I7 E7 G7 S7 hD7 r7 (by omega) hf rfl
    | true =>
      simp only [if_true] at hf
      obtain ⟨⟨d8, g8⟩, h8, hf⟩ := bind_some hf
      obtain ⟨⟨more9, g9⟩, h9, hf⟩ := bind_some hf
      obtain ⟨rfl, rfl⟩ : d8 :: more9 = more ∧ g9 = g' := by cases hf; exact ⟨rfl, rfl⟩
      refine wpAny_bind (wpAny_bind (lift (thn (he.un _ s7 σ6' H7 (fun v H' => ∃ ι8, Ext H7 ι7 H' ι8 ∧ RelG X'.K H' ι8 g8 ∧ Rel X'.K H' ι8 d8 v) I7 ⟨ι7, σ6, g7, d8, g8, G7, S7, h8, fun H8 ι8 v e8 G8 r8 => ⟨ι8, e8, G8, r8⟩⟩) fun y s8 q8 => ?_)))
      obtain ⟨v8, H8, I8, rv8, ι8, e8, G8, r8⟩ := q8
      have e58 := e57.trans e8
      obtain ⟨E8, ei8⟩ := E1.hideT e58
      have hD8 : H8 Dl = some (.lst vs) := e58.same Dl _ hHD (G1.hid Dl List.mem_cons_self).1
      have racc8 := RelL.ext e58 _ racc
      have S8 := S7.ext e8
      have hlen : vs.length < sizeLine := by rw [← racc.length]; omega
      rw [ei8] at G8 S8 racc8 r8
      refine wpAny_bind (lift (thn (mt_append (X := X') _ s8 σ6' H8 (.ref Dl) [v8] (.ref Dl) [y] (fun _ H' => H' = upd H8 Dl (.lst (vs ++ [v8]))) I8 rfl (.cons rv8 .nil) ⟨Dl, vs, v8, rfl, rfl, hD8, hlen, rfl⟩) fun _ s9 q9 => ?_))
      obtain ⟨_, H9, I9, _, rfl⟩ := q9
      refine wpAny_pure (wpAny_pure ⟨rfl, ?_⟩)
      refine again (acc9 := acc ++ [d8]) I9 (E8.growN hD) (G8.grow hD8) ⟨S8.1, fun j d q => let ⟨v, a, b⟩ := S8.2 j d q; ⟨v, a, Rel.grow hD8 d b⟩⟩ upd_same ?_ (by simp; omega) h9 (by simp)
      exact RelL.append (RelL.grow hD8 _ racc8) (by simp only [RelL]; exact ⟨v8, [], rfl, Rel.grow hD8 _ r8, rfl⟩)
  · have ei : i = L := by omega
    subst ei
    rw [Nat.sub_self] at hf
    obtain ⟨xs, hxs, hxl, rfl, rfl⟩ := compLR_zero hf
    obtain ⟨st, go⟩ := j1 xs hxs hxl
    refine thn (T.done X' rfl rfl rfl hc _ [] s σ H _ I (stat fri) ti (st (Nat.le_refl _))) fun r s4 ⟨hr, I4⟩ => ?_
    subst hr
    exact wpAny_pure (fin s4 σ H ιo vs I4 fri E1 G1 hHD (by simpa using racc))
def fCompR (mk : List D → G → Option (D × G)) (fi : FIR) (fr : List (Option Nat)) (t : FG) (c : FT) (e : FE) : FE := fun σ g => (fi σ g).bind fun r => if szOk r.2.1 = true then (compLR r.1 r.2.1 t c e r.2.1 (subS fr σ) r.2.2).bind fun q => mk q.1 q.2 else none
section
variable {X : Cx} {tg iter elt : Expr} {ifs : List Expr} {scope : Scope} {pos cpos : Pos} {N : List Str} {fr : List (Option Nat)} {fi : FIR} {t : FG} {c : FT} {e : FE}
theorem compR_core {pins : List (Addr × Obj)} {s : Shared} {σ : L2.St} {H : Hp} {ι : Ix} {σd : Sg} {g g1 g' : G} {all : List D} {nn L : Nat} {use : Option (Value → Sem Unit)} {Q : Value → Shared → Prop}
    (hxe : X.xe = fun _ _ => False) (hc : X.calm = true) (ok : CompOk X N fr scope) (hit : DIR X tg iter fi) (hin : ∀ C s3 H fp pins, DG (compCx X N scope C s3 H fp pins) tg t ∧ DIfs (compCx X N scope C s3 H fp pins) ifs c ∧ DE (compCx X N scope C s3 H fp pins) elt e)
    (hs : ∀ x, foldedSetIterable iter X.env x = pure x) (I : Inv X pins σ H s) (G0 : RelG X.K H ι g) (S0 : RelS X.K H ι σd σ) (h1 : fi σd g = some (nn, L, g1)) (hz : szOk L = true) (h2 : compLR nn L t c e L (subS fr σd) g1 = some (all, g'))
    (fin : ∀ s' H' ιo vs Dl C, Inv X pins σ H' s' → FpOk X pins H' C → (∃ m, s'.heap.Ns C m) → Ext H ι H' ιo → RelG X.K H' (Ix.hide ιo Dl) g' → H' Dl = some (.lst vs) → RelL X.K H' (Ix.hide ιo Dl) all vs → Dl ∉ ιo.hd → H Dl = none → compPost (model X.prog X.w) X.A X.xe use Q (.ref Dl) C (.ok .next) s') :
    wpAny (model X.prog X.w) X.A (comprehension (.ListComp elt [⟨tg, iter, ifs, 0⟩] scope pos) scope X.env cpos (newList []) false (eval iter X.env) use) Q X.xe s := by
  have free : ∀ x ∈ scope.names, x.2 = .free → ∃ c, X.env.cells.lookup x.1 = some c := fun x hx hk => I.ok.has x.1 (ok.free x hx hk).2
  refine wpAny_comprehension_free (use := use) rfl hs (closureFor_of free) ok.kind ok.names (thn (hit.un pins s σ H (fun J H' => ∃ ι1, Ext H ι H' ι1 ∧ RelG X.K H' ι1 g1 ∧ ItOkR X.K J H' ι1 nn L) I ⟨ι, σd, g, nn, L, g1, G0, S0, h1, fun H1 ι1 J e1 G1 J1 => ⟨ι1, e1, G1, J1⟩⟩) fun xv s1 h1' => thn h1' fun itv s2 q2 => ?_)
  obtain ⟨it, fp, tn, J, H1, rfl, I1, T, t1, f1, ι1, e1, G1, J1⟩ := q2
  refine wpAny_newObj_type ?_
  have hDn : H1 s2.heap.objs.size = none := I1.hok.fresh (Nat.le_refl _)
  generalize hs3 : ({ s2 with heap := s2.heap.push { cls := .type "list", dict := none, data := .seq ([] : List Value).toArray } } : Shared) = s3
  have I3 : Inv X pins σ (upd H1 s2.heap.objs.size (.lst [])) s3 := by
    rw [← hs3]
    exact I1.laid (t' := s2.toks) (fun b u e => Heap.get?_push_of_some _ e) (Nat.le_refl _) ⟨Nat.zero_le _, [], 0, .nil, Heap.get?_push_size _ rfl⟩
  have k3 : ∀ b o, s2.heap.get? b = some o → s3.heap.get? b = some o := fun b o e => by rw [← hs3]; exact Heap.get?_push_of_some _ e
  have sz3 : s3.heap.objs.size = s2.heap.objs.size + 1 := by rw [← hs3]; exact Heap.size_push ..
  have hfl : ∀ b ∈ fp, b < s2.heap.objs.size := fun b hb => let ⟨o, eo, _⟩ := T.obj _ _ t1 b hb; Heap.lt_size eo
  have f3 : ∀ b ∈ fp, FpOk X pins (upd H1 s2.heap.objs.size (.lst [])) b := fun b hb => ⟨by rw [upd_ne (Nat.ne_of_lt (hfl b hb))]; exact (f1 b hb).1, (f1 b hb).2⟩
  refine wpAny_newFunctionEnv ok.nocell (by intro y hy; simp at hy) (fun h4 hns hsb => ?_) ok.kind
  have k4 : ∀ b o, s3.heap.get? b = some o → h4.get? b = some o := fun b o e => hsb.extBut b o (Nat.ne_of_lt (Heap.lt_size e)) (Heap.get?_push_of_some _ e)
  have hns' : h4.Ns s3.heap.objs.size fun _ => none := by simpa using hns
  have I4 := comp_enter (tk := s3.toks + ([] : List (Str × Value)).length) ok I3 f3 (fun b hb => by rw [sz3]; exact Nat.lt_succ_of_lt (hfl b hb)) hns' k4
  obtain ⟨hg, hi, he⟩ := hin s3.heap.objs.size s3 (upd H1 s2.heap.objs.size (.lst [])) fp pins
  have t4 : tn 0 h4 := T.keep _ _ _ t1 fun b hb o e => k4 b o (k3 b o e)
  have fx : ∀ b ∈ fp, FpOk (compCx X N scope s3.heap.objs.size s3 (upd H1 s2.heap.objs.size (.lst [])) fp pins) [] (upd H1 s2.heap.objs.size (.lst [])) b := fun b hb => by
    refine ⟨(f3 b hb).1, ?_, ?_, .inl hb, ?_, ?_⟩
    · exact Nat.ne_of_lt (by rw [sz3]; exact Nat.lt_succ_of_lt (hfl b hb))
    · exact I4.ok.exfs b hb
    · exact (I4.ok.exf b hb).2
    · intro p hp
      have hp' : p ∈ X.pn ++ pins := by
        have q : p ∈ (X.pn ++ pins) ++ [] := hp
        simpa using q
      exact (f1 b hb).2.2.2.2.2 p hp'
  have loop : codeAny (model X.prog X.w) X.A (.compLoop (.ListComp elt [⟨tg, iter, ifs, 0⟩] scope pos) 0 (.ref it) (.ref s2.heap.objs.size) (compEnvC scope (clOf scope X.env) s3.heap.objs.size X.env))
      (compPost (model X.prog X.w) X.A X.xe use Q (.ref s2.heap.objs.size) s3.heap.objs.size) { s3 with heap := h4, toks := s3.toks + ([] : List (Str × Value)).length } := by
    refine compR_loop (X' := compCx X N scope s3.heap.objs.size s3 (upd H1 s2.heap.objs.size (.lst [])) fp pins) (all := all) (g' := g') rfl hc T fx J1 hDn (szOk.le hz) hg hi he ?_ _ _ _ ι1 (subS fr σd) g1 I4 t4 (fun b hb => (f3 b hb).1) ((Ext.refl (H := H1) (ι := ι1)).growN hDn) (G1.hide hDn) ?_ upd_same h2
    · intro s' σ' H' ιo vs I' fr' E' G' hD' r'
      have I5 : Inv X pins σ H' s' := I3.call' (ch := fp) I'.os I'.base I'.hok I'.bare fun b hb => ⟨(f3 b hb).2.2.2.1, (f3 b hb).2.1, (f3 b hb).2.2.2.2.1, (f3 b hb).2.2.2.2.2⟩
      obtain ⟨m, hm, _⟩ := I'.loc
      refine fin s' H' ιo vs _ _ I5 ?_ ⟨m, hm⟩ (e1.trans E') G' hD' r' ?_ ?_
      · have z := I3.fpOk (H' := H') (b := s3.heap.objs.size) (Nat.le_refl _) I'.free
        exact z
      · rw [E'.hid]; exact G1.freshH hDn
      · cases q : H s2.heap.objs.size with
        | none => rfl
        | some o => exact absurd hDn (e1.there _ (by rw [q]; simp))
    · have S1 : RelS X.K H1 ι1 (subS fr σd) (subS fr σ) := (S0.ext e1).sub fr
      exact ⟨S1.1, fun j d q => let ⟨v, a, b⟩ := S1.2 j d q; ⟨v, a, Rel.hide hDn d b⟩⟩
  exact codeAny_compStart_list loop (T.self _ 0 _ _ _ t4 loop)
theorem de_compR (hxe : X.xe = fun _ _ => False) (hc : X.calm = true) (ok : CompOk X N fr scope) (hit : DIR X tg iter fi) (hin : ∀ C s3 H fp pins, DG (compCx X N scope C s3 H fp pins) tg t ∧ DIfs (compCx X N scope C s3 H fp pins) ifs c ∧ DE (compCx X N scope C s3 H fp pins) elt e)
    (hs : ∀ x, foldedSetIterable iter X.env x = pure x := by intro _; rfl) : DE X (.ListComp elt [⟨tg, iter, ifs, 0⟩] scope pos) (fCompR cLst fi fr t c e) := .of (by
  intro pins s σ H Q I h
  obtain ⟨ι, σd, g, d, gg, G0, S0, h, p⟩ := h
  obtain ⟨⟨nn, L, g1⟩, h1, h⟩ := bind_some h
  dsimp only at h
  split at h
  · rename_i hz
    obtain ⟨⟨all, g'⟩, h2, h⟩ := bind_some h
    rw [eval_ListComp]
    refine compR_core (use := none) hxe hc ok hit hin hs I G0 S0 h1 hz h2 fun s' H' ιo vs Dl C I' fC ⟨m, hm⟩ e' G' hD r hn hf0 => ?_
    refine ⟨m, hm, fun h'' sb => ⟨.ref Dl, H', ?_, rfl, comp_val e' G' hD r hn h p⟩⟩
    obtain ⟨f0, f1, f2, f3, f4, f5⟩ := fC
    exact I'.turned (t' := s'.toks) (fun b o hb e => sb.extBut b o hb e) f0 f1 f3 f4 f5
  · cases h)
end
section
variable {σ : Sg} {g : G} {fa : FE}
@[simp] theorem ev_iRef : iRef fa σ g = (fa σ g).bind fun r => match r.1 with | .ref n => (r.2[n]?).bind fun xs => some (n, xs.length, r.2) | _ => none := rfl
@[simp] theorem ev_fCompR {mk : List D → G → Option (D × G)} {fi : FIR} {fr : List (Option Nat)} {t : FG} {c : FT} : fCompR mk fi fr t c fa σ g = (fi σ g).bind fun r => if szOk r.2.1 = true then (compLR r.1 r.2.1 t c fa r.2.1 (subS fr σ) r.2.2).bind fun q => mk q.1 q.2 else none := rfl
end
end L3
namespace L3
open PySem PySem.Spec PyProof.Rows L2
section
variable {X : Cx} {o : Expr} {fo : FE} {apos cpos : Pos}
end
section
variable {σ : Sg} {g : G} {fo : FE}
end
section
variable {X : Cx} {tg iter elt : Expr} {ifs : List Expr} {scope : Scope} {pos cpos : Pos} {N : List Str} {fr : List (Option Nat)} {fi : FI} {t : FG} {c : FT} {e : FE}
end
end L3
namespace L3
open PySem PySem.Spec PyProof.Rows L2
open Sem (wp)
open Builtin
section
variable {X : Cx}
end
section
variable {σ : Sg} {g : G}
end
end L3
namespace L3
open PySem PySem.Spec PyProof.Rows L2
section
variable {prog : Program} {w : World} {A : Around} {E : Value → Shared → Prop} {s : Shared}
end
section
variable {prog : Program} {w : World} {A : Around} {E : Value → Shared → Prop} {s : Shared}
end
end L3
namespace L3
open PySem PySem.Spec PyProof.Rows L2
def fGetL (ks : List Str) (fr : FA) (fe ff : FE) : FE := fun σ g => (fr σ g).bind fun r => if r.1.all flt = true then (fe σ r.2).bind fun q => match q.1 with
  | .str x => (ff σ q.2).bind fun z => if flt z.1 = true then some ((tGet (ks.zip r.1) x).getD z.1, z.2) else none
  | _ => none
  else none
theorem PrR.getN {z : Str} : ∀ {ks : List Str} {ds : List D} {xs : List V} {vs : List (Value × Value)}, PrR ks xs vs → xs = ds.map toV → tGet (ks.zip ds) z = none → valueAt (prK ks vs) (.inr z : Key) = none
  | [], ds, xs, vs, h, e, g => by simp [prK, valueAt]
  | k :: ks, [], xs, vs, h, e, g => by
    obtain ⟨x, xr, t, u, vr, rfl, rfl, r, h⟩ := h
    simp at e
  | k :: ks, d0 :: ds, xs, vs, h, e, g => by
    obtain ⟨x, xr, t, u, vr, rfl, rfl, r, h⟩ := h
    rw [List.map_cons] at e
    injection e with e1 e2
    by_cases hk : k = z
    · subst hk
      simp [tGet] at g
    · have g' : tGet (ks.zip ds) z = none := by
        unfold tGet at g ⊢
        rw [List.zip_cons_cons, List.find?_cons] at g
        simpa [hk] using g
      have h1 := h.getN e2 g'
      unfold valueAt at h1 ⊢
      rw [prK, List.find?_cons]
      have hne : ¬ (Sum.inr k : Key) = Sum.inr z := fun q => hk (by injection q)
      simpa [hne] using h1
section
variable {X : Cx}
theorem big_of {pins : List (Addr × Obj)} {σ : L2.St} {H : Hp} {s : Shared} (I : Inv X pins σ H s) : (s.heap.objs.size == sysModules) = false := by
  have h : mainGlobals < s.heap.objs.size := (I.mod.glob.keeps I.bk).lt
  have h2 : sysModules < s.heap.objs.size := Nat.lt_trans (by decide) h
  rw [beq_eq_false_iff_ne]
  exact Nat.ne_of_gt h2
theorem de_getL {keys : List (Option Expr)} {vals : List Expr} {ks : List Str} {fr : FA} {e f : Expr} {fe ff : FE} {dp apos cpos : Pos} (hD : DPr X keys vals dp ks fr) (he : DE X e fe) (hf : DE X f ff) (hn : ks.Nodup) (h0 : keys ≠ []) (h15 : keys.length ≤ 15)
    (hbase : attributeBase (.Dict keys vals dp) "get" X.env (eval (.Dict keys vals dp) X.env) = eval (.Dict keys vals dp) X.env := by rfl)
    (hfew : ((backTo cpos (starEach [e, f] X.env)).all (fun x => !x.1) && (backToKw cpos (keywordEach [] X.env)).all (fun x => x.1.isSome)
      && decide (([e, f] : List Expr).length + ([] : List Keyword).length + (if ([] : List Keyword).isEmpty then 0 else 1) < 30)) = true := by rfl)
    (hline : (apos.endLine == cpos.line) = true := by rfl) (htr : backTo cpos (starEach [e, f] X.env) = [(false, eval e X.env), (false, eval f X.env)] := by rfl) :
    DE X (.Call (.Attribute (.Dict keys vals dp) "get" apos) [e, f] [] cpos) (fGetL ks fr fe ff) := .of (by
  intro pins s σ H Q I h
  obtain ⟨ι, σd, g, d, g', G0, S0, h, p⟩ := h
  obtain ⟨⟨ds, g1⟩, h1, h⟩ := bind_some h
  dsimp only at h
  split at h
  · rename_i hfl
    obtain ⟨⟨d2, g2⟩, h2, h⟩ := bind_some h
    cases d2 with
    | str z =>
      dsimp only at h
      obtain ⟨⟨d3, g3⟩, h3, h⟩ := bind_some h
      dsimp only at h
      split at h
      · rename_i hf3
        cases h
        refine wpAny_Call_method hbase hfew hline PySem.F.plainAttrs_dict PySem.F.slot_dict_get PySem.F.type_dict_get (wpAny_Dict_walk (knd := mixKind X.prog X.w) hD.all hD.len h0 h15 ?_)
        have hsys := big_of I
        have hlocal := I.lt
        have hsz := I.sz
        have hcell : ∀ x c, X.env.cells.lookup x = some c → c ≠ s.heap.objs.size := fun x c hc z => by
          obtain ⟨v, hv⟩ := I.cell x c hc
          obtain ⟨o, ho, _⟩ := hv
          have := Heap.lt_size ho
          exact Nat.lt_irrefl _ (z ▸ this)
        have hpin : ∀ p ∈ X.pn ++ pins, p.1 ≠ s.heap.objs.size := fun p hp z => by
          have := Heap.lt_size (I.pin p hp).1
          exact Nat.lt_irrefl _ (z ▸ this)
        have hfree := I.fresh
        have I1 : Inv X pins σ H { s with heap := s.heap.push { cls := .type "dict", data := .dict #[] } } := I.kept (t' := s.toks) fun b u q => Heap.get?_push_of_some _ q
        have I2 : Inv X ((s.heap.objs.size, { cls := .type "dict", data := .dict #[] }) :: pins) σ H { s with heap := s.heap.push { cls := .type "dict", data := .dict #[] } } := I1.pins_of fun p hp => by
          rcases List.mem_cons.mp hp with rfl | hp
          · exact ⟨Heap.get?_push_size _ rfl, hfree, Nat.ne_of_gt hlocal, I.nofs (Nat.le_refl _), fun v => by simp⟩
          · exact I1.pin p (List.mem_append_right _ hp)
        refine thn (hD.un _ _ σ H (fun xs H1 => ∃ ι1, Ext H ι H1 ι1 ∧ RelG X.K H1 ι1 g1 ∧ RelS X.K H1 ι1 σd σ ∧ RelL X.K H1 ι1 ds xs) I2 ⟨ι, σd, g, ds, g1, G0, S0, h1, fun H1 ι1 vs e1 G1 r1 => ⟨ι1, e1, G1, S0.ext e1, r1⟩⟩) fun vs s1 ⟨xs, H1, I3, pr, ι1, e1, G1, S1, rl⟩ => ?_
        have pin1 := I3.pin (s.heap.objs.size, { cls := .type "dict", data := .dict #[] }) (List.mem_append_right _ List.mem_cons_self)
        refine ⟨prK ks vs, pr.carries, ⟨_, #[], _, pin1.1, ⟨rfl, rfl, rfl⟩, rfl, fun e he => by simp at he, .nil, List.nodup_nil⟩, fun h' hd' hb' => ?_⟩
        have nd : ((prK ks vs).map (·.1)).Nodup := by
          rw [pr.keys]
          exact List.pairwise_map.mpr (hn.imp fun h q => h (by injection q))
        rw [merged_nil_of_nodup _ nd] at hd'
        have I4 : Inv X pins σ H1 s1 := I3.pins_of fun p hp => I3.pin p (List.mem_append_right _ (List.mem_cons_of_mem _ hp))
        have I5 : Inv X pins σ H1 { s1 with heap := h', toks := s1.toks + vs.length } := I4.turned (it := s.heap.objs.size) (fun b o hb q => (hb'.2 b hb).trans q) pin1.2.1 (Nat.ne_of_gt hlocal) (.inr hsz) hcell hpin
        obtain ⟨od, es, ep, ho, hex, hdt, hks, hpr, hnd⟩ := id hd'
        have I6 : Inv X ((s.heap.objs.size, od) :: pins) σ H1 { s1 with heap := h', toks := s1.toks + vs.length } := I5.pins_of fun p hp => by
          rcases List.mem_cons.mp hp with rfl | hp
          · exact ⟨ho, pin1.2.1, Nat.ne_of_gt hlocal, I.nofs (Nat.le_refl _), fun v => by rw [hdt]; simp⟩
          · exact I5.pin p (List.mem_append_right _ hp)
        refine ⟨hd'.mapOf.typeIs, fun b q => by cases q; exact ⟨od, ho, hex.2.1⟩, ?_⟩
        rw [htr]
        refine Calls.callWith_builtin rfl (Calls.evalArgs_plain (Calls.spliced_cons (thn (he.un _ _ σ H1 (fun x H2 => ∃ ι2, Ext H1 ι1 H2 ι2 ∧ RelG X.K H2 ι2 g2 ∧ RelS X.K H2 ι2 σd σ ∧ Rel X.K H2 ι2 (.str z) x) I6 ⟨ι1, σd, g1, (.str z), g2, G1, S1, h2, fun H2 ι2 v e2 G2 r2 => ⟨ι2, e2, G2, S1.ext e2, r2⟩⟩) fun u s2 ⟨x, H2, I7, rx, ι2, e2, G2, S2, rd⟩ =>
          Calls.spliced_cons (thn (hf.un _ _ σ H2 (fun x H3 => ∃ ι3, Ext H2 ι2 H3 ι3 ∧ RelG X.K H3 ι3 g' ∧ Rel X.K H3 ι3 d3 x) I7 ⟨ι2, σd, g2, d3, g', G2, S2, h3, fun H3 ι3 v e3 G3 r3 => ⟨ι3, e3, G3, r3⟩⟩) fun u3 s3 ⟨x3, H3, I8, rx3, ι3, e3, G3, rd3⟩ => Calls.spliced_nil ?_))))
        simp only [Rel] at rd
        subst rd
        obtain ⟨t, rfl⟩ := rx
        have pin2 := I8.pin (s.heap.objs.size, od) (List.mem_append_right _ List.mem_cons_self)
        have I9 : Inv X pins σ H3 s3 := I8.pins_of fun p hp => I8.pin p (List.mem_append_right _ (List.mem_cons_of_mem _ hp))
        have hm2 : s3.heap.DictOf (mixKind X.prog X.w) s.heap.objs.size (prK ks vs) := ⟨od, es, ep, pin2.1, hex, hdt, hks, hpr, hnd⟩
        obtain ⟨ex, _⟩ := flt_rels hfl rl
        refine call_meetsIn PySem.F.slot_dict_get hm2.mapOf.typeIs PySem.F.entry_dict_get (PySem.F.args_dict_get_3 _ _ _) (meets_dict_get_default (mixKind X.prog X.w) s.heap.objs.size (mixKind_str X.prog X.w z t) hsys u3) ⟨_, hm2.mapOf, ?_⟩
        cases hz : tGet (ks.zip ds) z with
        | some dd =>
          rw [hz] at p
          obtain ⟨u', hu1, hu2⟩ := pr.get ex hz
          have fd := tGet_flt hfl hz
          rw [hu1]
          exact ⟨toV dd, H3, I9.tok _, hu2, p H3 ι3 _ (e1.trans (e2.trans e3)) G3 (rel_flt fd)⟩
        | none =>
          rw [hz] at p
          rw [pr.getN ex hz]
          exact ⟨x3, H3, I9.tok _, rx3, p H3 ι3 _ (e1.trans (e2.trans e3)) G3 rd3⟩
      · cases h
    | _ => cases h
  · cases h)
@[simp] theorem ev_fGetL {ks : List Str} {fr : FA} {fe ff : FE} {σ : Sg} {g : G} : fGetL ks fr fe ff σ g = (fr σ g).bind fun r => if r.1.all flt = true then (fe σ r.2).bind fun q => match q.1 with
  | .str x => (ff σ q.2).bind fun z => if flt z.1 = true then some ((tGet (ks.zip r.1) x).getD z.1, z.2) else none
  | _ => none
  else none := rfl
end
end L3
namespace Pd
open PySem L3 L2
def wholeB : FS := fRet (fAndV (fIsi .int (fVar 0)) (fNotV (fIsi .bool (fVar 0))))
def withinB (whole : Fn) : FS := fRet (fAndV (fCall whole (fCons (fVar 0) (fNil))) (fChain oLe oLe (fVar 1) (fVar 0) (fVar 2)))
def figuredB (within : Fn) : FS := fRet (fCall within (fCons (fVar 0) (fCons (fUn uNeg (fVar 1)) (fCons (fVar 1) (fNil)))))
def tupleOfB : FS := fRet (fAndV (fIsi .tuple (fVar 0)) (fChain oLe oLe (fVar 1) (fCall bLen (fCons (fVar 0) (fNil))) (fVar 2)))
def valB (vw : Fn) : FS := fRet (fCall vw (fCons (fVar 0) (fCons (fC (.int 3)) (fNil))))
def vwB (figured tupleOf vw : Fn) : FS := fSeq (fIf (fOr (fTest (fOp oEq (fVar 1) (fC (.int 0)))) (fNot (fTru (fIsi .tuple (fVar 0))))) (fRet (fCall figured (fCons (fVar 0) (fCons (fC (.int 999999999999)) (fNil))))) (fSkip)) (fSeq (fIf (fNot (fTru (fCall tupleOf (fCons (fVar 0) (fCons (fC (.int 0)) (fCons (fC (.int 8)) (fNil))))))) (fRet (fC (.bl false))) (fSkip)) (fRet (fCall bAll (fCons (fComp cLst (iSeq (fVar 0)) [none, some 1] (gN 0) (fTrue) (fCall vw (fCons (fVar 0) (fCons (fOp (iOp okAny (· - ·)) (fVar 1) (fC (.int 1))) (fNil))))) (fNil)))))
def handB : FS := fSeq (fAsg (fC (.int 0)) (gN 2)) (fSeq (fIf (fTest (fOp oLt (fVar 1) (fCall bLen (fCons (fVar 0) (fNil))))) (fAsg (fOp oIx (fVar 0) (fVar 1)) (gN 2)) (fSkip)) (fRet (fMk mkRef (fCons (fOp oMul (fVar 2) (fCall bInt (fCons (fOp oGe (fVar 2) (fOp (iOp okPow (fun i j => i ^ j.toNat)) (fC (.int 10)) (fC (.int 18)))) (fNil)))) (fCons (fOp oAdd (fOp oAdd (fOp (iOp okMod (· % ·)) (fVar 2) (fC (.int 2305843009213693951))) (fOp oMul (fC (.int 7919)) (fVar 1))) (fC (.int 3))) (fCons (fC (.int 0)) (fNil)))))))
def takeB : FS := fSeq (fIf (fTest (fOp oGt (fOp oIx (fVar 0) (fC (.int 0))) (fC (.int 0)))) (fSeq (fAsg (fOp (iOp okMod (· % ·)) (fOp oIx (fVar 0) (fC (.int 0))) (fVar 1)) (gN 2)) (fSeq (fAsg (fOp (iOp okDiv (· / ·)) (fOp oIx (fVar 0) (fC (.int 0))) (fVar 1)) (gIx (fVar 0) (fC (.int 0)))) (fRet (fVar 2)))) (fSkip)) (fSeq (fAsg (fOp oAdd (fOp oIx (fVar 0) (fC (.int 2))) (fC (.int 1))) (gIx (fVar 0) (fC (.int 2)))) (fSeq (fAsg (fOp oIx (fVar 0) (fC (.int 2))) (gN 3)) (fSeq (fAsg (fOp (iOp okMod (· % ·)) (fOp oMul (fOp oIx (fVar 0) (fC (.int 1))) (fOp oAdd (fOp oAdd (fC (.int 48271)) (fOp oMul (fOp oMul (fC (.int 2)) (fVar 3)) (fVar 3))) (fOp oMul (fC (.int 65537)) (fVar 3)))) (fC (.int 2305843009213693921))) (gN 4)) (fSeq (fAsg (fOp oAdd (fOp oAdd (fOp (iOp okMod (· % ·)) (fVar 4) (fC (.int 1000003))) (fOp oMul (fVar 3) (fC (.int 99991)))) (fC (.int 11))) (gN 5)) (fSeq (fAsg (fOp (iOp okMod (· % ·)) (fOp oMul (fVar 4) (fVar 5)) (fC (.int 2305843009213693907))) (gN 4)) (fRet (fOp (iOp okMod (· % ·)) (fOp oAdd (fOp (iOp okDiv (· / ·)) (fVar 4) (fC (.int 97))) (fOp (iOp okDiv (· / ·)) (fVar 4) (fC (.int 1000033)))) (fVar 1))))))))
def pickB (take : Fn) : FS := fRet (fOp oIx (fVar 1) (fCall take (fCons (fVar 0) (fCons (fCall bLen (fCons (fVar 1) (fNil))) (fNil)))))
def isWhole : D → Bool
  | .int _ => true
  | _ => false
def within (d : D) (a b : Int) : Bool := match d with | .int i => decide (a ≤ i) && decide (i ≤ b) | _ => false
def tupLen (d : D) (a b : Int) : Bool := match d with | .tup xs => decide (a ≤ (xs.length : Int)) && decide ((xs.length : Int) ≤ b) | _ => false
def fig (d : D) : Bool := within d (-999999999999) 999999999999
def isVal : Nat → D → Bool
  | 0, d => fig d
  | n + 1, .tup xs => decide (xs.length ≤ 8) && xs.all (isVal n)
  | _ + 1, d => fig d
def WholeOk (f : Fn) : Prop := ∀ d g, f [d] g = some (.bl (isWhole d), g)
def WithinOk (f : Fn) : Prop := ∀ d a b g, f [d, .int a, .int b] g = some (.bl (within d a b), g)
def FiguredOk (f : Fn) : Prop := ∀ d a g, f [d, .int a] g = some (.bl (within d (-a) a), g)
def TupleOfOk (f : Fn) : Prop := ∀ d a b g, f [d, .int a, .int b] g = some (.bl (tupLen d a b), g)
def VwOk (f : Fn) (n : Nat) : Prop := ∀ d g, f [d, .int n] g = some (.bl (isVal n d), g)
def ValOk (f : Fn) : Prop := ∀ d g, f [d] g = some (.bl (isVal 3 d), g)
theorem whole_ok : WholeOk (runFn false 1 1 wholeB) := fun d g => by
  refine ev_run (σ' := [some d]) rfl ?_ rfl
  cases d <;> simp [wholeB, isI, isWhole]
theorem within_ok {w : Fn} (hw : WholeOk w) : WithinOk (runFn false 3 3 (withinB w)) := fun d a b g => by
  refine ev_run (σ' := [some d, some (.int a), some (.int b)]) rfl ?_ rfl
  cases d with
  | int i =>
    simp [withinB, hw (.int i), isWhole, within]
    by_cases h : a ≤ i <;> simp [h]
  | _ => simp [withinB, hw _ _, isWhole, within]
theorem figured_ok {w : Fn} (hw : WithinOk w) : FiguredOk (runFn false 2 2 (figuredB w)) := fun d a g => by
  refine ev_run (σ' := [some d, some (.int a)]) rfl ?_ rfl
  simp [figuredB, hw d (-a) a g]
theorem tupleOf_ok : TupleOfOk (runFn false 3 3 tupleOfB) := fun d a b g => by
  refine ev_run (σ' := [some d, some (.int a), some (.int b)]) rfl ?_ rfl
  cases d with
  | tup xs =>
    simp [tupleOfB, isI, tupLen]
    by_cases h : a ≤ (xs.length : Int) <;> simp [h]
  | _ => simp [tupleOfB, isI, tupLen]
theorem vw_ok0 {f t v : Fn} (hf : FiguredOk f) : VwOk (runFn false 2 2 (vwB f t v)) 0 := fun d g => by
  refine ev_run (σ' := [some d, some (.int 0)]) rfl ?_ rfl
  simp [vwB, hf d _ g, isVal, fig]
theorem vw_ok1 {f t v : Fn} {n : Nat} (hf : FiguredOk f) (ht : TupleOfOk t) (hv : VwOk v n) : VwOk (runFn false 2 2 (vwB f t v)) (n + 1) := fun d g => by
  refine ev_run (σ' := [some d, some (.int ((n : Int) + 1))]) rfl ?_ rfl
  have hn : ¬ ((n : Int) + 1 = 0) := by omega
  cases d with
  | tup xs =>
    by_cases h : xs.length ≤ 8
    · have hz : xs.length ≤ 16777216 := by omega
      have h8 : (xs.length : Int) ≤ 8 := by omega
      have h9 : (0 : Int) ≤ (xs.length : Int) := by omega
      have e := compL_mapI (t := gN 0) (c := fTrue) (e := fCall v (fCons (fVar 0) (fCons (fOp (iOp okAny (· - ·)) (fVar 1) (fC (.int 1))) fNil))) (h := fun d => D.bl (isVal n d)) (fun σ => ∃ o, σ = [o, some (.int ((n : Int) + 1))]) xs [none, some (.int ((n : Int) + 1))] g ⟨_, rfl⟩ (by
        rintro d _ σ ⟨o, rfl⟩
        refine ⟨[some d, some (.int ((n : Int) + 1))], by simp, by simp, ?_, ⟨_, rfl⟩⟩
        have e1 : ((n : Int) + 1 - 1) = n := by omega
        simp [e1, hv d g])
      simp [vwB, isI, hn, ht _ _ _ _, isVal, h, h8, hz, e, bools_map, tupLen]
    · have h8 : ¬ (xs.length : Int) ≤ 8 := by omega
      simp [vwB, isI, hn, ht _ _ _ _, isVal, h, h8, tupLen]
  | _ => simp [vwB, isI, hn, hf _ _ _, isVal, fig]
theorem val_ok {v : Fn} (hv : VwOk v 3) : ValOk (runFn false 1 1 (valB v)) := fun d g => by
  refine ev_run (σ' := [some d]) rfl ?_ rfl
  have e := hv d g
  simp at e
  simp [valB, e]
theorem okMul_l {i j : Int} (h1 : -(2 ^ 64) < i) (h2 : i < 2 ^ 64) : okMul i j = true := by
  unfold okMul
  rw [Bool.or_eq_true]
  exact .inl (Nat.ble_eq_true_of_le (by omega))
theorem okMul_r {i j : Int} (h1 : -(2 ^ 64) < j) (h2 : j < 2 ^ 64) : okMul i j = true := by
  unfold okMul
  rw [Bool.or_eq_true]
  exact .inr (Nat.ble_eq_true_of_le (by omega))
theorem okDiv_of {i j : Int} (h1 : 0 < j) (h2 : j < 1073741824) : okDiv i j = true := by
  unfold okDiv
  rw [Bool.and_eq_true]
  exact ⟨Nat.ble_eq_true_of_le (by omega), Nat.ble_eq_true_of_le (by omega)⟩
theorem okMod_of {i j : Int} (h1 : 0 < j) : okMod i j = true := Nat.ble_eq_true_of_le (by omega)
def Hd (g : G) (n : Nat) (B : Int) : Prop := ∃ a b c : Int, g[n]? = some [.int a, .int b, .int c] ∧ 0 ≤ a ∧ 0 ≤ b ∧ b < 2 ^ 62 ∧ 0 ≤ c ∧ c ≤ B
theorem Hd.mono {g n B B'} (h : Hd g n B) (hb : B ≤ B') : Hd g n B' := let ⟨a, b, c, h1, h2, h3, h4, h5, h6⟩ := h; ⟨a, b, c, h1, h2, h3, h4, h5, by omega⟩
theorem Hd.lt {g n B} (h : Hd g n B) : n < g.length := let ⟨_, _, _, h1, _⟩ := h; (List.getElem?_eq_some_iff.mp h1).1
def Fr (n : Nat) (g g' : G) : Prop := g'.length = g.length ∧ ∀ j, j ≠ n → g'[j]? = g[j]?
theorem Fr.refl {n g} : Fr n g g := ⟨rfl, fun _ _ => rfl⟩
theorem Fr.trans {n g g1 g2} (a : Fr n g g1) (b : Fr n g1 g2) : Fr n g g2 := ⟨b.1.trans a.1, fun j h => (b.2 j h).trans (a.2 j h)⟩
theorem Fr.set {n : Nat} {g : G} {xs : List D} : Fr n g (g.set n xs) := ⟨by simp, fun j h => by rw [List.getElem?_set_ne (Ne.symm h)]⟩
theorem at0 {a b c : D} : atI [a, b, c] 0 = some a := rfl
theorem at1 {a b c : D} : atI [a, b, c] 1 = some b := rfl
theorem at2 {a b c : D} : atI [a, b, c] 2 = some c := rfl
theorem put0 {g : G} {n : Nat} {a b c v : D} (h : g[n]? = some [a, b, c]) : putD (.ref n) (.int 0) v g = some (g.set n [v, b, c]) := by unfold putD; simp only [h]; rfl
theorem put2 {g : G} {n : Nat} {a b c v : D} (h : g[n]? = some [a, b, c]) : putD (.ref n) (.int 2) v g = some (g.set n [a, b, v]) := by unfold putD; simp only [h]; rfl
def TakeOk (f : Fn) : Prop := ∀ (n : Nat) (m : Int) (g : G) (B : Int), B < 2 ^ 40 → 0 < m → m < 1073741824 → Hd g n B →
    ∃ r g', f [.ref n, .int m] g = some (.int r, g') ∧ 0 ≤ r ∧ r < m ∧ Hd g' n (B + 1) ∧ Fr n g g'
theorem take_ok : TakeOk (runFn false 6 2 takeB) := fun n m g B hB hm hm2 h => by
  obtain ⟨a, b, c, hg, ha, hb, hb2, hc, hcB⟩ := h
  have hn : n < g.length := (List.getElem?_eq_some_iff.mp hg).1
  by_cases h0 : 0 < a
  · refine ⟨a % m, g.set n [.int (a / m), .int b, .int c], ev_run (σ' := [some (.ref n), some (.int m), some (.int (a % m)), none, none, none]) rfl ?_ (by simp), Int.emod_nonneg _ (by omega), Int.emod_lt_of_pos _ hm, ⟨a / m, b, c, by simp [hn], Int.ediv_nonneg ha (by omega), hb, hb2, hc, by omega⟩, Fr.set⟩
    simp [takeB, hg, at0, h0, okMod_of hm, okDiv_of hm hm2, put0 hg]
  · have e2 : (g.set n [.int a, .int b, .int (c + 1)])[n]? = some [.int a, .int b, .int (c + 1)] := by simp [hn]
    generalize hx : b * (48271 + 2 * (c + 1) * (c + 1) + 65537 * (c + 1)) % 2305843009213693921 = x
    have hx0 : 0 ≤ x := by rw [← hx]; exact Int.emod_nonneg _ (by decide)
    have hx1 : x < 2305843009213693921 := by rw [← hx]; exact Int.emod_lt_of_pos _ (by decide)
    generalize hy : x * (x % 1000003 + (c + 1) * 99991 + 11) % 2305843009213693907 = y
    refine ⟨(y / 97 + y / 1000033) % m, g.set n [.int a, .int b, .int (c + 1)], ev_run (σ' := [some (.ref n), some (.int m), none, some (.int (c + 1)), some (.int y), some (.int (x % 1000003 + (c + 1) * 99991 + 11))]) rfl ?_ (by simp), Int.emod_nonneg _ (by omega), Int.emod_lt_of_pos _ hm, ⟨a, b, c + 1, e2, ha, hb, hb2, by omega, by omega⟩, Fr.set⟩
    have m1 : okMul 2 (c + 1) = true := okMul_l (by decide) (by decide)
    have m2 : okMul (2 * (c + 1)) (c + 1) = true := okMul_r (by omega) (by omega)
    have m3 : okMul 65537 (c + 1) = true := okMul_l (by decide) (by decide)
    have m4 : okMul b (48271 + 2 * (c + 1) * (c + 1) + 65537 * (c + 1)) = true := okMul_l (by omega) (by omega)
    have m5 : okMul (c + 1) 99991 = true := okMul_r (by decide) (by decide)
    have m6 : okMul x (x % 1000003 + (c + 1) * 99991 + 11) = true := okMul_l (by omega) (by omega)
    have d1 : okMod (b * (48271 + 2 * (c + 1) * (c + 1) + 65537 * (c + 1))) 2305843009213693921 = true := okMod_of (by decide)
    have d2 : okMod x 1000003 = true := okMod_of (by decide)
    have d3 : okMod (x * (x % 1000003 + (c + 1) * 99991 + 11)) 2305843009213693907 = true := okMod_of (by decide)
    have d4 : okMod (y / 97 + y / 1000033) m = true := okMod_of hm
    have q1 : okDiv y 97 = true := okDiv_of (by decide) (by decide)
    have q2 : okDiv y 1000033 = true := okDiv_of (by decide) (by decide)
    simp [takeB, hg, at0, at1, at2, h0, put2 hg, e2, m1, m2, m3, m4, m5, m6, d1, d2, d3, d4, q1, q2, hx, hy]
theorem TakeOk.w {f : Fn} (h : TakeOk f) {n : Nat} {m : Int} {g : G} {B : Int} {Q : D × G → Prop} (hB : B < 2 ^ 40) (hm : 0 < m) (hm2 : m < 1073741824) (hh : Hd g n B) (q : ∀ r g', 0 ≤ r → r < m → Hd g' n (B + 1) → Fr n g g' → Q (.int r, g')) : wp (f [.ref n, .int m] g) Q := by
  obtain ⟨r, g', e, r0, r1, h1, l1⟩ := h n m g B hB hm hm2 hh
  exact ⟨_, e, q r g' r0 r1 h1 l1⟩
def PickOk (f : Fn) : Prop := ∀ (n : Nat) (xs : List D) (g : G) (B : Int), B < 2 ^ 40 → xs ≠ [] → xs.length < 1000 → Hd g n B →
    ∃ d g', f [.ref n, .lst xs] g = some (d, g') ∧ d ∈ xs ∧ Hd g' n (B + 1) ∧ Fr n g g'
theorem pick_ok {t : Fn} (ht : TakeOk t) : PickOk (runFn false 2 2 (pickB t)) := fun n xs g B hB hx hl h => by
  have h1 : 0 < xs.length := List.length_pos_iff.mpr hx
  obtain ⟨r, g', e, r0, r1, h', hl'⟩ := ht n (xs.length : Int) g B hB (by omega) (by omega) h
  have hr : r.toNat < xs.length := by omega
  have ha : atI xs r = some xs[r.toNat] := by
    unfold atI ixN
    rw [if_pos r0, if_pos r1]
    exact List.getElem?_eq_getElem hr
  refine ⟨xs[r.toNat], g', ev_run (σ' := [some (.ref n), some (.lst xs)]) rfl ?_ hl'.1, List.getElem_mem hr, h', hl'⟩
  simp [pickB, e, ha]
theorem PickOk.w {f : Fn} (h : PickOk f) {n : Nat} {xs : List D} {g : G} {B : Int} {Q : D × G → Prop} (hB : B < 2 ^ 40) (hx : xs ≠ []) (hl : xs.length < 1000) (hh : Hd g n B) (q : ∀ d g', d ∈ xs → Hd g' n (B + 1) → Fr n g g' → Q (d, g')) : wp (f [.ref n, .lst xs] g) Q := by
  obtain ⟨d, g', e, r0, h1, l1⟩ := h n xs g B hB hx hl hh
  exact ⟨_, e, q d g' r0 h1 l1⟩
theorem p18 : okPow 10 18 = true := by decide
def HandOk (f : Fn) : Prop := ∀ (ns : List Int) (i : Nat) (g : G), i ≤ 100 → ∃ xs, f [.lst (ns.map .int), .int i] g = some (.ref g.length, g ++ [xs]) ∧ Hd (g ++ [xs]) g.length 0
section
variable {σ σ1 : Sg} {g g1 : G} {f : FE} {f1 f2 : FS} {c : FT} {d : D}
theorem seq_nx (h : f1 σ g = some (.nx, σ1, g1)) : fSeq f1 f2 σ g = f2 σ1 g1 := by rw [ev_fSeq, h]; rfl
theorem asg_n {i : Nat} (h : f σ g = some (d, g1)) : fAsg f (gN i) σ g = some (.nx, σ.set i (some d), g1) := by rw [ev_fAsg, h]; rfl
theorem if_t (h : c σ g = some (true, g1)) : fIf c f1 f2 σ g = f1 σ g1 := by rw [ev_fIf, h]; rfl
theorem if_f (h : c σ g = some (false, g1)) : fIf c f1 f2 σ g = f2 σ g1 := by rw [ev_fIf, h]; rfl
end
theorem hand_ok : HandOk (runFn true 3 2 handB) := fun ns i g hi => by
  have fin : ∀ cell : Int, ∃ xs, (fRet (fMk mkRef (fCons (fOp oMul (fVar 2) (fCall bInt (fCons (fOp oGe (fVar 2) (fOp (iOp okPow (fun i j => i ^ j.toNat)) (fC (.int 10)) (fC (.int 18)))) (fNil)))) (fCons (fOp oAdd (fOp oAdd (fOp (iOp okMod (· % ·)) (fVar 2) (fC (.int 2305843009213693951))) (fOp oMul (fC (.int 7919)) (fVar 1))) (fC (.int 3))) (fCons (fC (.int 0)) (fNil)))))) [some (.lst (ns.map .int)), some (.int i), some (.int cell)] g = some (.rt (.ref g.length), [some (.lst (ns.map .int)), some (.int i), some (.int cell)], g ++ [xs]) ∧ Hd (g ++ [xs]) g.length 0 := by
    intro cell
    have q0 : 0 ≤ cell % 2305843009213693951 := Int.emod_nonneg _ (by decide)
    have q1 : cell % 2305843009213693951 < 2305843009213693951 := Int.emod_lt_of_pos _ (by decide)
    have d1 : okMod cell 2305843009213693951 = true := okMod_of (by decide)
    have m2 : okMul 7919 (i : Int) = true := okMul_l (by decide) (by decide)
    by_cases hc : 1000000000000000000 ≤ cell
    · have m1 : okMul cell 1 = true := okMul_r (by decide) (by decide)
      refine ⟨[.int cell, .int (cell % 2305843009213693951 + 7919 * i + 3), .int 0], by simp [p18, hc, m1, m2, d1], ?_⟩
      exact ⟨cell, cell % 2305843009213693951 + 7919 * i + 3, 0, by simp, by omega, by omega, by omega, by omega, by omega⟩
    · have m1 : okMul cell 0 = true := okMul_r (by decide) (by decide)
      refine ⟨[.int 0, .int (cell % 2305843009213693951 + 7919 * i + 3), .int 0], by simp [p18, hc, m1, m2, d1], ?_⟩
      exact ⟨0, cell % 2305843009213693951 + 7919 * i + 3, 0, by simp, by omega, by omega, by omega, by omega, by omega⟩
  by_cases h : i < ns.length
  · obtain ⟨xs, e, hx⟩ := fin ns[i]
    refine ⟨xs, ev_runK (σ' := [some (.lst (ns.map .int)), some (.int i), some (.int ns[i])]) rfl ?_, hx⟩
    unfold handB
    refine (seq_nx (asg_n (d := .int 0) (g1 := g) rfl)).trans ?_
    refine (seq_nx (σ1 := [some (.lst (ns.map .int)), some (.int i), some (.int ns[i])]) (g1 := g) ((if_t (g1 := g) ?_).trans (asg_n ?_))).trans e
    · have : (i : Int) < (ns.length : Int) := by omega
      simp [this]
    · have ha : atI (ns.map D.int) (i : Int) = some (.int ns[i]) := atI_nat (by simp [h])
      simp [ha]
  · obtain ⟨xs, e, hx⟩ := fin 0
    refine ⟨xs, ev_runK (σ' := [some (.lst (ns.map .int)), some (.int i), some (.int 0)]) rfl ?_, hx⟩
    unfold handB
    refine (seq_nx (asg_n (d := .int 0) (g1 := g) rfl)).trans ?_
    refine (seq_nx (σ1 := [some (.lst (ns.map .int)), some (.int i), some (.int 0)]) (g1 := g) ((if_f (g1 := g) ?_).trans rfl)).trans e
    have : ¬ (i : Int) < (ns.length : Int) := by omega
    simp [this]
theorem HandOk.w {f : Fn} (h : HandOk f) {ns : List Int} {i : Nat} {g : G} {Q : D × G → Prop} (hi : i ≤ 100) (q : ∀ xs, Hd (g ++ [xs]) g.length 0 → Q (.ref g.length, g ++ [xs])) : wp (f [.lst (ns.map .int), .int i] g) Q := by
  obtain ⟨xs, e, hx⟩ := h ns i g hi
  exact ⟨_, e, q xs hx⟩
def rng (i : Int) (n : Nat) : List D := (List.range n).map fun (k : Nat) => D.int (i + k)
theorem rng_len {i n} : (rng i n).length = n := by simp [rng]
theorem iR1_w {fr : FA} {σ : Sg} {g : G} {Q : List D × G → Prop} (h : wp (fr σ g) fun r => ∃ j : Int, r.1 = [.int j] ∧ -1000000 ≤ j ∧ j ≤ 1000000 ∧ Q (rng 0 j.toNat, r.2)) : wp (iR1 fr σ g) Q := by
  obtain ⟨⟨ds, g'⟩, e, j, rfl, h1, h2, q⟩ := h
  refine ⟨_, ?_, q⟩
  unfold iR1
  rw [e]
  simp only [Option.bind_some]
  rw [if_pos (okR.of h1 h2)]
  rfl
theorem rng_get {i : Int} {n j : Nat} {d : D} (h : (rng i n)[j]? = some d) : j < n ∧ d = .int (i + j) := by
  unfold rng at h
  rw [List.getElem?_map] at h
  cases hj : (List.range n)[j]? with
  | none => rw [hj] at h; cases h
  | some x =>
    rw [hj] at h
    have hl := (List.getElem?_eq_some_iff.mp hj).1
    have : x = j := by rw [List.getElem?_range (by simpa using hl)] at hj; cases hj; rfl
    subst this
    cases h
    exact ⟨by simpa using hl, rfl⟩
theorem rng_get0 {n j : Nat} {d : D} (h : (rng 0 n)[j]? = some d) : j < n ∧ d = .int j := by
  obtain ⟨h1, rfl⟩ := rng_get h
  exact ⟨h1, by simp⟩
end Pd
namespace Pd
open PySem L3 L2
theorem wp_runR {nN nP : Nat} {b : FS} {ds : List D} {g : G} {Q : D × G → Prop} (hl : ds.length = nP) (h : wp (b (ds.map some ++ List.replicate (nN - nP) none) g) fun r => ∃ (k : Nat) (xs : List D), r.1 = .rt (.ref k) ∧ g.length ≤ k ∧ r.2.2[k]? = some xs ∧ noRs g.length xs = true ∧ (r.2.2.take g.length).all (noRs g.length) = true ∧ Q (.lst xs, r.2.2.take g.length)) : wp (runFn false nN nP b ds g) Q := by
  obtain ⟨⟨r, σ, g'⟩, e, k, xs, rfl, h1, h2, h3, h4, q⟩ := h
  dsimp only at *
  unfold runFn
  rw [if_pos hl, e]
  have h5 : k < g'.length := (List.getElem?_eq_some_iff.mp h2).1
  refine ⟨_, ?_, q⟩
  have z1 : ¬ g'.length = g.length := by omega
  have z2 : ¬ k < g.length := by omega
  simp only [Option.bind_some, Bool.false_eq_true, if_false]
  unfold L3.settle
  rw [if_neg z1, if_pos h4]
  dsimp only
  rw [if_neg z2, h2]
  simp only [h3, if_true]
def Clean (g : G) : Prop := ∀ xs ∈ g, ∀ n, noRs n xs = true
theorem Clean.fr {n : Nat} {g g' : G} {B : Int} (hc : Clean g) (f : Fr n g g') (h : Hd g' n B) : Clean g' := by
  intro xs hx m
  obtain ⟨j, hj⟩ := List.mem_iff_getElem?.mp hx
  by_cases e : j = n
  · subst e
    obtain ⟨a, b, c, h1, _⟩ := h
    rw [h1] at hj
    cases hj
    simp [noRs, noR]
  · rw [f.2 j e] at hj
    exact hc xs (List.mem_iff_getElem?.mpr ⟨j, hj⟩) m
theorem Clean.app {g : G} {xs : List D} {B : Int} (hc : Clean g) (h : Hd (g ++ [xs]) g.length B) : Clean (g ++ [xs]) := by
  obtain ⟨a, b, c, h1, _⟩ := h
  simp at h1
  subst h1
  intro ys hy m
  rcases List.mem_append.mp hy with hy | hy
  · exact hc ys hy m
  · simp at hy
    subst hy
    simp [noRs, noR]
theorem noRs_of {n : Nat} : ∀ {xs : List D}, (∀ x ∈ xs, noR n x = true) → noRs n xs = true
  | [], _ => rfl
  | x :: xs, h => by
    simp only [noRs, Bool.and_eq_true]
    exact ⟨h x (by simp), noRs_of fun y hy => h y (by simp [hy])⟩
theorem noRs_mem {n : Nat} : ∀ {xs : List D}, noRs n xs = true → ∀ x ∈ xs, noR n x = true
  | [], _, x, hx => by simp at hx
  | y :: xs, h, x, hx => by
    simp only [noRs, Bool.and_eq_true] at h
    rcases List.mem_cons.mp hx with rfl | hx
    · exact h.1
    · exact noRs_mem h.2 x hx
theorem noR_ints {n : Nat} (is : List Int) : noRs n (is.map D.int) = true := noRs_of fun x hx => by
  simp only [List.mem_map] at hx
  obtain ⟨i, _, rfl⟩ := hx
  rfl
theorem noRs_app {n : Nat} {xs ys : List D} (h : noRs n xs = true) (h2 : noRs n ys = true) : noRs n (xs ++ ys) = true := noRs_of fun x hx => by
  rcases List.mem_append.mp hx with hx | hx
  · exact noRs_mem h x hx
  · exact noRs_mem h2 x hx
theorem at_nat {xs : List D} {n : Nat} {d : D} (h : xs[n]? = some d) : atI xs (n : Int) = some d := by
  have hl := (List.getElem?_eq_some_iff.mp h).1
  have h1 : (0 : Int) ≤ n := by omega
  have h2 : (n : Int) < (xs.length : Int) := by omega
  unfold atI ixN
  rw [if_pos h1, if_pos h2]
  simpa using h
theorem ints_map : ∀ vs : List Int, intsD (vs.map .int) = some vs
  | [] => rfl
  | v :: vs => by simp [intsD, ints_map vs]
structure Mk (g gg : G) (n : Nat) (B : Int) (xs : List D) : Prop where
  hd : Hd gg n B
  lt : n < g.length
  len : gg.length = g.length + 1
  at_ : gg[g.length]? = some xs
  old : ∀ j, j ≠ n → j < g.length → gg[j]? = g[j]?
theorem Mk.init {g : G} {n : Nat} {B : Int} {xs : List D} (h : Hd g n B) : Mk g (g ++ [xs]) n B xs := by
  have hl := h.lt
  obtain ⟨a, b, c, h1, h2⟩ := h
  exact ⟨⟨a, b, c, by rw [List.getElem?_append_left hl]; exact h1, h2⟩, hl, by simp, by simp, fun j _ hj => List.getElem?_append_left hj⟩
theorem Mk.step {g gg g' : G} {n : Nat} {B B' : Int} {xs : List D} (m : Mk g gg n B xs) (h : Hd g' n B') (f : Fr n gg g') : Mk g g' n B' xs := by
  have := m.lt
  exact ⟨h, m.lt, by rw [f.1]; exact m.len, by rw [f.2 _ (by omega)]; exact m.at_, fun j hj hl => by rw [f.2 j hj]; exact m.old j hj hl⟩
theorem Mk.put {g gg : G} {n : Nat} {B : Int} {xs ys : List D} (m : Mk g gg n B xs) : Mk g (gg.set g.length ys) n B ys := by
  have h1 := m.lt
  have h2 := m.len
  obtain ⟨a, b, c, h3, h4⟩ := m.hd
  refine ⟨⟨a, b, c, by rw [List.getElem?_set_ne (by omega)]; exact h3, h4⟩, h1, by simp [h2], by simp [h2], fun j hj hl => by rw [List.getElem?_set_ne (by omega)]; exact m.old j hj hl⟩
theorem Mk.mono {g gg : G} {n : Nat} {B B' : Int} {xs : List D} (m : Mk g gg n B xs) (h : B ≤ B') : Mk g gg n B' xs := ⟨m.hd.mono h, m.lt, m.len, m.at_, m.old⟩
theorem Mk.fin {g gg : G} {n : Nat} {B : Int} {xs : List D} (m : Mk g gg n B xs) : Hd (gg.take g.length) n B ∧ Fr n g (gg.take g.length) := by
  have h1 := m.lt
  have h2 := m.len
  obtain ⟨a, b, c, h3, h4⟩ := m.hd
  refine ⟨⟨a, b, c, by rw [List.getElem?_take_of_lt h1]; exact h3, h4⟩, by simp [h2], fun j hj => ?_⟩
  by_cases hl : j < g.length
  · rw [List.getElem?_take_of_lt hl]; exact m.old j hj hl
  · rw [List.getElem?_eq_none (by simp; omega), List.getElem?_eq_none (by omega)]
end Pd
namespace Pd
open PySem L3 L2
structure Nest (g gg : G) (n : Nat) (B : Int) (xs : List D) : Prop where
  hd : Hd gg n B
  lt : n < g.length
  len : g.length + 1 ≤ gg.length
  at_ : gg[g.length]? = some xs
  old : ∀ j, j ≠ n → j < g.length → gg[j]? = g[j]?
theorem put_ok {g : G} {p : Nat} {xs : List D} {i : Nat} {v : D} (h : g[p]? = some xs) (hi : i < xs.length) : putD (.ref p) (.int i) v g = some (g.set p (xs.set i v)) := by
  have h1 : ixN xs.length (i : Int) = some i := by
    unfold ixN
    rw [if_pos (by omega), if_pos (by omega)]
    simp
  unfold putD
  simp only [h, h1]
end Pd
namespace K09
open PySem L3
def tbl_LENGTHS : List (Str × D) := [("deeds", .int 2), ("sums", .int 2), ("name", .int 2), ("least", .int 3), ("closer", .int 3)]
def tbl_NUMBERS : List (Str × D) := [("once", .tup [.str "hands"]), ("twice", .tup [.str "hands", .str "turn"]), ("handed", .tup [.str "hands", .str "turn", .str "moves"]), ("signs", .tup [.str "hands", .str "toggles", .str "shakes", .str "moves"]), ("shared", .tup [.str "hands", .str "places", .str "toggles", .str "shakes", .str "moves"]), ("tables", .tup [.str "hands", .str "boxes"])]
def b_1 (T : Nat → Fn) : FS := fRet (fAndV (fIsi .int (fVar 0)) (fNotV (fIsi .bool (fVar 0))))
def b_2 (T : Nat → Fn) : FS := fRet (fAndV (fCall (T 1) (fCons (fVar 0) (fNil))) (fChain oLe oLe (fVar 1) (fVar 0) (fVar 2)))
def b_3 (T : Nat → Fn) : FS := fRet (fCall (T 2) (fCons (fVar 0) (fCons (fUn uNeg (fVar 1)) (fCons (fVar 1) (fNil)))))
def b_4 (T : Nat → Fn) : FS := fRet (fAndV (fIsi .tuple (fVar 0)) (fChain oLe oLe (fVar 1) (fCall bLen (fCons (fVar 0) (fNil))) (fVar 2)))
def b_5 (T : Nat → Fn) : FS := fSeq (fIf (fAnd (fTru (fIsi .tuple (fVar 0))) (fAnd (fTest (fOp oGt (fCall bLen (fCons (fVar 0) (fNil))) (fC (.int 0)))) (fTru (fIsi .str (fOp oIx (fVar 0) (fC (.int 0))))))) (fRet (fOp oIx (fVar 0) (fC (.int 0)))) (fSkip)) (fRet (fC .non))
def b_8 (T : Nat → Fn) : FS := fRet (fOp oIx (fVar 0) (fOp oAdd (fC (.int 1)) (fDIdx tbl_NUMBERS (fOp oIx (fVar 0) (fC (.int 0))) (fVar 1))))
def b_9 (T : Nat → Fn) : FS := fRet (fCall (T 8) (fCons (fVar 0) (fCons (fC (.str "hands")) (fNil))))
def b_10 (T : Nat → Fn) : FS := fSeq (fIf (fTest (fOp oEq (fOp oIx (fVar 0) (fC (.int 0))) (fC (.str "shared")))) (fRet (fCall (T 8) (fCons (fVar 0) (fCons (fC (.str "places")) (fNil))))) (fSkip)) (fRet (fCall (T 9) (fCons (fVar 0) (fNil))))
def b_15 (T : Nat → Fn) : FS := fRet (fCall (T 16) (fCons (fVar 0) (fCons (fC (.int 3)) (fNil))))
def b_16 (T : Nat → Fn) : FS := fSeq (fIf (fOr (fTest (fOp oEq (fVar 1) (fC (.int 0)))) (fNot (fTru (fIsi .tuple (fVar 0))))) (fRet (fCall (T 3) (fCons (fVar 0) (fCons (fC (.int 999999999999)) (fNil))))) (fSkip)) (fSeq (fIf (fNot (fTru (fCall (T 4) (fCons (fVar 0) (fCons (fC (.int 0)) (fCons (fC (.int 8)) (fNil))))))) (fRet (fC (.bl false))) (fSkip)) (fRet (fCall bAll (fCons (fComp cLst (iSeq (fVar 0)) [none, some 1] (gN 0) (fTrue) (fCall (T 16) (fCons (fVar 0) (fCons (fOp (iOp okAny (· - ·)) (fVar 1) (fC (.int 1))) (fNil))))) (fNil)))))
def b_18 (T : Nat → Fn) : FS := fSeq (fAsg (fCall (T 5) (fCons (fVar 2) (fNil))) (gN 3)) (fSeq (fIf (fTest (fOp oEq (fVar 3) (fC (.str "look")))) (fRet (fOp oEq (fCall bLen (fCons (fVar 2) (fNil))) (fC (.int 1)))) (fSkip)) (fSeq (fIf (fOr (fTest (fOp oNeD (fVar 3) (fC (.str "put")))) (fTest (fOp oNeD (fCall bLen (fCons (fVar 2) (fNil))) (fC (.int 3))))) (fRet (fC (.bl false))) (fSkip)) (fRet (fAndV (fCall (T 19) (fCons (fVar 0) (fCons (fVar 1) (fCons (fOp oIx (fVar 2) (fC (.int 1))) (fNil))))) (fCall (T 20) (fCons (fVar 0) (fCons (fOp oIx (fVar 2) (fC (.int 2))) (fNil))))))))
def b_19 (T : Nat → Fn) : FS := fSeq (fIf (fNot (fTru (fCall (T 2) (fCons (fVar 2) (fCons (fC (.int 0)) (fCons (fOp (iOp okAny (· - ·)) (fCall (T 10) (fCons (fVar 0) (fNil))) (fC (.int 1))) (fNil))))))) (fRet (fC (.bl false))) (fSkip)) (fRet (fOrV (fOp oEq (fOp oIx (fVar 0) (fC (.int 0))) (fC (.str "shared"))) (fOp oEq (fVar 2) (fVar 1))))
def b_20 (T : Nat → Fn) : FS := fSeq (fIf (fTest (fOp oEq (fOp oIx (fVar 0) (fC (.int 0))) (fC (.str "tables")))) (fRet (fAndV (fCall (T 1) (fCons (fVar 1) (fNil))) (fOp oEq (fVar 1) (fC (.int 1))))) (fSkip)) (fRet (fCall (T 15) (fCons (fVar 1) (fNil))))
def b_27 (T : Nat → Fn) : FS := fSeq (fAsg (fCall (T 9) (fCons (fVar 0) (fNil))) (gN 2)) (fSeq (fIf (fNot (fTru (fCall (T 4) (fCons (fVar 1) (fCons (fVar 2) (fCons (fVar 2) (fNil))))))) (fRet (fC (.bl false))) (fSkip)) (fSeq (fIf (fNot (fTru (fCall bAll (fCons (fComp cLst (iEnum (fVar 1)) [none, none, some 0] (gT 2 (gConss (gN 0) (gConss (gN 1) (gNils)))) (fTrue) (fCall (T 28) (fCons (fVar 2) (fCons (fVar 0) (fCons (fVar 1) (fNil)))))) (fNil))))) (fRet (fC (.bl false))) (fSkip)) (fRet (fCall (T 31) (fCons (fVar 1) (fNil))))))
def b_28 (T : Nat → Fn) : FS := fSeq (fAsg (fCall (T 5) (fCons (fVar 2) (fNil))) (gN 3)) (fSeq (fIf (fOr (fTest (fDNotInN tbl_LENGTHS (fVar 3))) (fTest (fOp oNeD (fCall bLen (fCons (fVar 2) (fNil))) (fDGet tbl_LENGTHS (fVar 3))))) (fRet (fC (.bl false))) (fSkip)) (fSeq (fIf (fTest (fOp oEq (fVar 3) (fC (.str "deeds")))) (fRet (fCall (T 29) (fCons (fVar 0) (fCons (fVar 1) (fCons (fOp oIx (fVar 2) (fC (.int 1))) (fNil)))))) (fSkip)) (fSeq (fIf (fTest (fOp oIn (fOp oIx (fVar 0) (fC (.int 0))) (fMk mkTup (fCons (fC (.str "shared")) (fCons (fC (.str "tables")) (fNil)))))) (fRet (fC (.bl false))) (fSkip)) (fSeq (fIf (fTest (fOp oEq (fVar 3) (fC (.str "sums")))) (fRet (fCall (T 30) (fCons (fOp oIx (fVar 2) (fC (.int 1))) (fNil)))) (fSkip)) (fSeq (fIf (fNot (fTru (fCall (T 3) (fCons (fOp oIx (fVar 2) (fC (.int 1))) (fCons (fC (.int 999999999)) (fNil)))))) (fRet (fC (.bl false))) (fSkip)) (fSeq (fIf (fTest (fOp oEq (fVar 3) (fC (.str "least")))) (fRet (fCall (T 2) (fCons (fOp oIx (fVar 2) (fC (.int 2))) (fCons (fC (.int 1)) (fCons (fCall (T 9) (fCons (fVar 0) (fNil))) (fNil)))))) (fSkip)) (fRet (fOrV (fOp oEq (fVar 3) (fC (.str "name"))) (fCall (T 2) (fCons (fOp oIx (fVar 2) (fC (.int 2))) (fCons (fC (.int 1)) (fCons (fC (.int 6)) (fNil)))))))))))))
def b_29 (T : Nat → Fn) : FS := fSeq (fIf (fNot (fTru (fCall (T 4) (fCons (fVar 2) (fCons (fC (.int 0)) (fCons (fC (.int 12)) (fNil))))))) (fRet (fC (.bl false))) (fSkip)) (fRet (fCall bAll (fCons (fComp cLst (iSeq (fVar 2)) [none, some 0, some 1] (gN 0) (fTrue) (fCall (T 18) (fCons (fVar 1) (fCons (fVar 2) (fCons (fVar 0) (fNil)))))) (fNil))))
def b_30 (T : Nat → Fn) : FS := fSeq (fIf (fNot (fTru (fCall (T 4) (fCons (fVar 0) (fCons (fC (.int 0)) (fCons (fC (.int 8)) (fNil))))))) (fRet (fC (.bl false))) (fSkip)) (fRet (fCall bAll (fCons (fComp cLst (iSeq (fVar 0)) [none] (gN 0) (fTrue) (fOrV (fOp oIs (fVar 0) (fC .non)) (fCall (T 3) (fCons (fVar 0) (fCons (fC (.int 999999999)) (fNil)))))) (fNil))))
def b_31 (T : Nat → Fn) : FS := fSeq (fFor (iEnum (fVar 0)) (gT 2 (gConss (gN 1) (gConss (gN 2) (gNils)))) (fIf (fNot (fTru (fCall bAll (fCons (fComp cLst (iSeq (fSlW (fVar 0) (fNoP) (fPart (fVar 1)))) [none, some 2] (gN 0) (fTrue) (fCall (T 32) (fCons (fVar 1) (fCons (fVar 0) (fNil))))) (fNil))))) (fRet (fC (.bl false))) (fSkip))) (fRet (fC (.bl true)))
def b_32 (T : Nat → Fn) : FS := fSeq (fIf (fTest (fOp oNeD (fOp oIx (fVar 0) (fC (.int 0))) (fOp oIx (fVar 1) (fC (.int 0))))) (fRet (fC (.bl false))) (fSkip)) (fSeq (fIf (fTest (fOp oEq (fOp oIx (fVar 0) (fC (.int 0))) (fC (.str "name")))) (fRet (fOp oNeD (fOp oIx (fVar 0) (fC (.int 1))) (fOp oIx (fVar 1) (fC (.int 1))))) (fSkip)) (fRet (fOp oEq (fSlW (fVar 0) (fPart (fC (.int 2))) (fNoP)) (fSlW (fVar 1) (fPart (fC (.int 2))) (fNoP)))))
def b_34 (T : Nat → Fn) : FS := fSeq (fAsg (fC (.int 0)) (gN 2)) (fSeq (fIf (fTest (fOp oLt (fVar 1) (fCall bLen (fCons (fVar 0) (fNil))))) (fAsg (fOp oIx (fVar 0) (fVar 1)) (gN 2)) (fSkip)) (fRet (fMk mkRef (fCons (fOp oMul (fVar 2) (fCall bInt (fCons (fOp oGe (fVar 2) (fOp (iOp okPow (fun i j => i ^ j.toNat)) (fC (.int 10)) (fC (.int 18)))) (fNil)))) (fCons (fOp oAdd (fOp oAdd (fOp (iOp okMod (· % ·)) (fVar 2) (fC (.int 2305843009213693951))) (fOp oMul (fC (.int 7919)) (fVar 1))) (fC (.int 3))) (fCons (fC (.int 0)) (fNil)))))))
def b_35 (T : Nat → Fn) : FS := fSeq (fIf (fTest (fOp oGt (fOp oIx (fVar 0) (fC (.int 0))) (fC (.int 0)))) (fSeq (fAsg (fOp (iOp okMod (· % ·)) (fOp oIx (fVar 0) (fC (.int 0))) (fVar 1)) (gN 2)) (fSeq (fAsg (fOp (iOp okDiv (· / ·)) (fOp oIx (fVar 0) (fC (.int 0))) (fVar 1)) (gIx (fVar 0) (fC (.int 0)))) (fRet (fVar 2)))) (fSkip)) (fSeq (fAsg (fOp oAdd (fOp oIx (fVar 0) (fC (.int 2))) (fC (.int 1))) (gIx (fVar 0) (fC (.int 2)))) (fSeq (fAsg (fOp oIx (fVar 0) (fC (.int 2))) (gN 3)) (fSeq (fAsg (fOp (iOp okMod (· % ·)) (fOp oMul (fOp oIx (fVar 0) (fC (.int 1))) (fOp oAdd (fOp oAdd (fC (.int 48271)) (fOp oMul (fOp oMul (fC (.int 2)) (fVar 3)) (fVar 3))) (fOp oMul (fC (.int 65537)) (fVar 3)))) (fC (.int 2305843009213693921))) (gN 4)) (fSeq (fAsg (fOp oAdd (fOp oAdd (fOp (iOp okMod (· % ·)) (fVar 4) (fC (.int 1000003))) (fOp oMul (fVar 3) (fC (.int 99991)))) (fC (.int 11))) (gN 5)) (fSeq (fAsg (fOp (iOp okMod (· % ·)) (fOp oMul (fVar 4) (fVar 5)) (fC (.int 2305843009213693907))) (gN 4)) (fRet (fOp (iOp okMod (· % ·)) (fOp oAdd (fOp (iOp okDiv (· / ·)) (fVar 4) (fC (.int 97))) (fOp (iOp okDiv (· / ·)) (fVar 4) (fC (.int 1000033)))) (fVar 1))))))))
def b_36 (T : Nat → Fn) : FS := fRet (fOp oIx (fVar 1) (fCall (T 35) (fCons (fVar 0) (fCons (fCall bLen (fCons (fVar 1) (fNil))) (fNil)))))
def b_37 (T : Nat → Fn) : FS := fSeq (fAsg (fCall (T 35) (fCons (fVar 0) (fCons (fC (.int 6)) (fNil)))) (gN 2)) (fSeq (fAsg (fCall (T 36) (fCons (fVar 0) (fCons (fMk mkLst (fCons (fC (.int 0)) (fCons (fC (.int 0)) (fCons (fC (.int 2)) (fCons (fC (.int 3)) (fCons (fC (.int 7)) (fCons (fC (.int 9)) (fNil)))))))) (fNil)))) (gN 3)) (fSeq (fAsg (fOp oAdd (fC (.int 1)) (fCall (T 35) (fCons (fVar 0) (fCons (fC (.int 4)) (fNil))))) (gN 4)) (fSeq (fAsg (fMk mkTup (fCons (fCall (T 35) (fCons (fVar 0) (fCons (fC (.int 2)) (fNil)))) (fCons (fCall (T 35) (fCons (fVar 0) (fCons (fC (.int 2)) (fNil)))) (fNil)))) (gN 5)) (fSeq (fIf (fTest (fOp oLt (fVar 2) (fC (.int 2)))) (fRet (fOp oIx (fMk mkLst (fCons (fMk mkTup (fCons (fC (.str "once")) (fCons (fVar 1) (fNil)))) (fCons (fMk mkTup (fCons (fC (.str "twice")) (fCons (fVar 1) (fCons (fVar 3) (fNil))))) (fNil)))) (fVar 2))) (fSkip)) (fSeq (fIf (fTest (fOp oEq (fVar 2) (fC (.int 2)))) (fRet (fMk mkTup (fCons (fC (.str "handed")) (fCons (fVar 1) (fCons (fVar 3) (fCons (fVar 4) (fNil))))))) (fSkip)) (fSeq (fIf (fTest (fOp oEq (fVar 2) (fC (.int 3)))) (fRet (fOp oAdd (fOp oAdd (fMk mkTup (fCons (fC (.str "signs")) (fCons (fVar 1) (fNil)))) (fVar 5)) (fMk mkTup (fCons (fVar 4) (fNil))))) (fSkip)) (fRet (fOp oAdd (fOp oAdd (fMk mkTup (fCons (fC (.str "shared")) (fCons (fVar 1) (fCons (fOp oAdd (fC (.int 1)) (fCall (T 35) (fCons (fVar 0) (fCons (fC (.int 4)) (fNil))))) (fNil))))) (fVar 5)) (fMk mkTup (fCons (fVar 4) (fNil)))))))))))
def b_38 (T : Nat → Fn) : FS := fSeq (fAsg (fOp oIx (fMk mkLst (fCons (fC (.int 2)) (fCons (fC (.int 3)) (fCons (fC (.int 4)) (fCons (fC (.int 5)) (fCons (fC (.int 6)) (fCons (fC (.int 8)) (fCons (fC (.int 1)) (fCons (fC (.int 40)) (fNil)))))))))) (fCall (T 35) (fCons (fVar 0) (fCons (fC (.int 8)) (fNil))))) (gN 4)) (fSeq (fAsg (fMk mkRef (fNil)) (gN 5)) (fSeq (fFor (iR1 (fCons (fVar 4) (fNil))) (gN 6) (fSeq (fPar 7 8 (fCons (fCall (T 35) (fCons (fVar 0) (fCons (fVar 1) (fNil)))) (fCons (fCall (T 35) (fCons (fVar 0) (fCons (fVar 4) (fNil)))) (fNil)))) (fIf (fAnd (fTest (fOp oGt (fVar 6) (fC (.int 0)))) (fTest (fOp oEq (fCall (T 35) (fCons (fVar 0) (fCons (fC (.int 3)) (fNil)))) (fC (.int 0))))) (fDrop (fApp (fVar 5) (fOp oIx (fMk mkLst (fCons (fMk mkTup (fCons (fC (.str "end")) (fNil))) (fCons (fMk mkTup (fCons (fC (.str "told")) (fCons (fCall bTup (fCons (fComp cLst (iR1 (fCons (fVar 2) (fNil))) [none, some 0] (gN 0) (fTrue) (fCall (T 35) (fCons (fVar 1) (fCons (fC (.int 2)) (fNil))))) (fNil))) (fNil)))) (fNil)))) (fCall bInt (fCons (fVar 3) (fNil)))))) (fIf (fTest (fOp oEq (fCall (T 35) (fCons (fVar 0) (fCons (fC (.int 2)) (fNil)))) (fC (.int 0)))) (fSeq (fAsg (fSSet (fComp cLst (iR1 (fCons (fCall (T 35) (fCons (fVar 0) (fCons (fC (.int 4)) (fNil)))) (fNil))) [none, some 0] (gN 0) (fTrue) (fCall (T 35) (fCons (fVar 1) (fCons (fC (.int 10)) (fNil)))))) (gN 9)) (fDrop (fApp (fVar 5) (fMk mkTup (fCons (fC (.str "read")) (fCons (fVar 7) (fCons (fCall bTup (fCons (fComp cLst (iSeq (fVar 9)) [none, some 0, some 4] (gN 0) (fTrue) (fMk mkTup (fCons (fVar 0) (fCons (fCall (T 35) (fCons (fVar 1) (fCons (fVar 2) (fNil)))) (fNil))))) (fNil))) (fCons (fVar 8) (fNil))))))))) (fDrop (fApp (fVar 5) (fMk mkTup (fCons (fC (.str "write")) (fCons (fVar 7) (fCons (fCall (T 35) (fCons (fVar 0) (fCons (fC (.int 10)) (fNil)))) (fCons (fVar 8) (fNil)))))))))))) (fRet (fCall bTup (fCons (fVar 5) (fNil))))))
def b_39 (T : Nat → Fn) : FS := fSeq (fAsg (fOp oAdd (fC (.int 1)) (fCall (T 35) (fCons (fVar 0) (fCons (fC (.int 4)) (fNil))))) (gN 2)) (fSeq (fAsg (fCall bTup (fCons (fComp cLst (iR1 (fCons (fVar 1) (fNil))) [none, some 0, some 2, some 1] (gN 0) (fTrue) (fCall (T 38) (fCons (fVar 1) (fCons (fVar 2) (fCons (fVar 3) (fCons (fC (.bl false)) (fNil))))))) (fNil))) (gN 3)) (fRet (fMk mkTup (fCons (fC (.str "tables")) (fCons (fVar 1) (fCons (fVar 2) (fCons (fVar 3) (fCons (fCall bTup (fCons (fComp cLst (iR1 (fCons (fVar 1) (fNil))) [none, some 0, some 2, some 1] (gN 0) (fTrue) (fCall (T 38) (fCons (fVar 1) (fCons (fVar 2) (fCons (fVar 3) (fCons (fC (.bl true)) (fNil))))))) (fNil))) (fNil)))))))))
def b_40 (T : Nat → Fn) : FS := fSeq (fAsg (fCall (T 35) (fCons (fVar 0) (fCons (fC (.int 8)) (fNil)))) (gN 1)) (fSeq (fIf (fTest (fOp oEq (fVar 1) (fC (.int 0)))) (fRet (fMk mkTup (fCons (fCall (T 35) (fCons (fVar 0) (fCons (fC (.int 5)) (fNil)))) (fCons (fMk mkTup (fCons (fOp (iOp okAny (· - ·)) (fCall (T 35) (fCons (fVar 0) (fCons (fC (.int 3)) (fNil)))) (fC (.int 1))) (fCons (fMk mkTup (fNil)) (fNil)))) (fNil))))) (fSkip)) (fSeq (fIf (fTest (fOp oEq (fVar 1) (fC (.int 1)))) (fRet (fCall (T 36) (fCons (fVar 0) (fCons (fMk mkLst (fCons (fUn uNeg (fC (.int 1))) (fCons (fOp (iOp okAny (· - ·)) (fOp (iOp okPow (fun i j => i ^ j.toNat)) (fC (.int 10)) (fC (.int 12))) (fC (.int 1))) (fCons (fOp (iOp okAny (· - ·)) (fC (.int 1)) (fOp (iOp okPow (fun i j => i ^ j.toNat)) (fC (.int 10)) (fC (.int 12)))) (fCons (fMk mkTup (fNil)) (fCons (fMk mkTup (fCons (fC (.int 0)) (fNil))) (fNil))))))) (fNil))))) (fSkip)) (fRet (fCall (T 35) (fCons (fVar 0) (fCons (fC (.int 7)) (fNil)))))))
def b_41 (T : Nat → Fn) : FS := fSeq (fAsg (fMk mkRef (fNil)) (gN 4)) (fSeq (fFor (iR1 (fCons (fVar 3) (fNil))) (gN 5) (fIf (fTest (fOp oLt (fCall (T 35) (fCons (fVar 0) (fCons (fC (.int 5)) (fNil)))) (fC (.int 3)))) (fSeq (fAsg (fVar 2) (gN 6)) (fSeq (fIf (fTest (fOp oEq (fOp oIx (fVar 1) (fC (.int 0))) (fC (.str "shared")))) (fAsg (fCall (T 35) (fCons (fVar 0) (fCons (fOp oIx (fVar 1) (fC (.int 2))) (fNil)))) (gN 6)) (fSkip)) (fDrop (fApp (fVar 4) (fMk mkTup (fCons (fC (.str "put")) (fCons (fVar 6) (fCons (fCall (T 40) (fCons (fVar 0) (fNil))) (fNil))))))))) (fDrop (fApp (fVar 4) (fMk mkTup (fCons (fC (.str "look")) (fNil))))))) (fRet (fMk mkTup (fCons (fC (.str "deeds")) (fCons (fCall bTup (fCons (fVar 4) (fNil))) (fNil))))))
def b_42 (T : Nat → Fn) : FS := fSeq (fAsg (fCall (T 35) (fCons (fVar 0) (fCons (fC (.int 4)) (fNil)))) (gN 2)) (fSeq (fPar 3 4 (fCons (fOp oAdd (fC (.int 1)) (fCall (T 35) (fCons (fVar 0) (fCons (fVar 1) (fNil))))) (fCons (fOp oAdd (fC (.int 1)) (fCall (T 35) (fCons (fVar 0) (fCons (fC (.int 6)) (fNil))))) (fNil)))) (fSeq (fAsg (fMk mkRef (fNil)) (gN 5)) (fSeq (fFor (iR1 (fCons (fVar 1) (fNil))) (gN 6) (fSeq (fAsg (fCall (T 36) (fCons (fVar 0) (fCons (fMk mkLst (fCons (fOp (iOp okAny (· - ·)) (fCall (T 35) (fCons (fVar 0) (fCons (fC (.int 41)) (fNil)))) (fC (.int 20))) (fCons (fOp (iOp okAny (· - ·)) (fCall (T 35) (fCons (fVar 0) (fCons (fC (.int 41)) (fNil)))) (fC (.int 20))) (fCons (fOp (iOp okAny (· - ·)) (fOp (iOp okPow (fun i j => i ^ j.toNat)) (fC (.int 10)) (fC (.int 9))) (fC (.int 1))) (fCons (fOp (iOp okAny (· - ·)) (fC (.int 1)) (fOp (iOp okPow (fun i j => i ^ j.toNat)) (fC (.int 10)) (fC (.int 9)))) (fNil)))))) (fNil)))) (gN 7)) (fSeq (fAsg (fComp cLst (iR1 (fCons (fCall (T 35) (fCons (fVar 0) (fCons (fC (.int 9)) (fNil)))) (fNil))) [none, some 0] (gN 0) (fTrue) (fCall (T 36) (fCons (fVar 1) (fCons (fMk mkLst (fCons (fC .non) (fCons (fC .non) (fCons (fC (.int 1)) (fCons (fC (.int 5)) (fCons (fUn uNeg (fC (.int 3))) (fCons (fC (.int 0)) (fCons (fOp (iOp okAny (· - ·)) (fOp (iOp okPow (fun i j => i ^ j.toNat)) (fC (.int 10)) (fC (.int 9))) (fC (.int 1))) (fNil))))))))) (fNil))))) (gN 8)) (fSeq (fAsg (fOp (iOp okAny (· - ·)) (fOp oAdd (fOp oMul (fC (.int 8)) (fVar 6)) (fCall (T 35) (fCons (fVar 0) (fCons (fC (.int 8)) (fNil))))) (fC (.int 20))) (gN 9)) (fDrop (fApp (fVar 5) (fOp oIx (fMk mkLst (fCons (fMk mkTup (fCons (fC (.str "sums")) (fCons (fCall bTup (fCons (fVar 8) (fNil))) (fNil)))) (fCons (fMk mkTup (fCons (fC (.str "name")) (fCons (fVar 9) (fNil)))) (fCons (fMk mkTup (fCons (fC (.str "least")) (fCons (fVar 7) (fCons (fVar 3) (fNil))))) (fCons (fMk mkTup (fCons (fC (.str "closer")) (fCons (fVar 7) (fCons (fVar 4) (fNil))))) (fNil)))))) (fVar 2)))))))) (fRet (fCall bTup (fCons (fVar 5) (fNil)))))))
def b_43 (T : Nat → Fn) : FS := fSeq (fAsg (fGetL ["least", "closer"] (fCons (fOp oAdd (fOp oIx (fVar 0) (fC (.int 1))) (fC (.int 1))) (fCons (fC (.int 7)) (fNil))) (fOp oIx (fVar 2) (fC (.int 0))) (fC (.int 0))) (gN 3)) (fSeq (fAsg (fMk mkRef (fCons (fC .non) (fCons (fMk mkTup (fNil)) (fCons (fMk mkLst (fNil)) (fCons (fSlW (fVar 2) (fNoP) (fPart (fC (.int 1)))) (fCons (fOp oAdd (fVar 2) (fMk mkTup (fCons (fC (.int 0)) (fNil)))) (fCons (fCall bLst (fCons (fVar 2) (fNil))) (fCons (fOp oAdd (fMk mkTup (fCons (fOp oAdd (fOp oIx (fVar 2) (fC (.int 0))) (fC (.str "s"))) (fNil))) (fSlW (fVar 2) (fPart (fC (.int 1))) (fNoP))) (fCons (fOp oAdd (fMk mkTup (fCons (fC .non) (fNil))) (fSlW (fVar 2) (fPart (fC (.int 1))) (fNoP))) (fNil)))))))))) (gN 4)) (fSeq (fDrop (fApp (fVar 4) (fOp oAdd (fMk mkTup (fCons (fMk mkTup (fCons (fC (.str "deeds")) (fNil))) (fNil))) (fSlW (fVar 2) (fPart (fC (.int 1))) (fNoP))))) (fSeq (fIf (fTest (fOp oEq (fOp oIx (fVar 2) (fC (.int 0))) (fC (.str "deeds")))) (fSeq (fAsg (fMk mkRef (fCons (fMk mkTup (fCons (fC (.str "put")) (fCons (fOp oAdd (fVar 1) (fC (.int 1))) (fCons (fC (.int 1)) (fNil))))) (fCons (fMk mkTup (fCons (fC (.str "put")) (fCons (fVar 1) (fCons (fC .non) (fNil))))) (fCons (fMk mkTup (fCons (fC (.str "look")) (fCons (fC (.int 1)) (fNil)))) (fCons (fC .non) (fCons (fMk mkTup (fCons (fC (.str "put")) (fCons (fVar 1) (fCons (fOp (iOp okPow (fun i j => i ^ j.toNat)) (fC (.int 10)) (fC (.int 12))) (fNil))))) (fCons (fMk mkLst (fCons (fC (.str "look")) (fNil))) (fNil)))))))) (gN 5)) (fSeq (fIf (fTest (fOp oEq (fOp oIx (fVar 0) (fC (.int 0))) (fC (.str "shared")))) (fAsg (fMk mkTup (fCons (fC (.str "put")) (fCons (fC (.int 4)) (fCons (fC (.int 1)) (fNil))))) (gIx (fVar 5) (fC (.int 0)))) (fSkip)) (fSeq (fAsg (fOp oAddR (fVar 4) (fCompR cLst (iRef (fVar 5)) [none, some 2] (gN 0) (fTrue) (fMk mkTup (fCons (fC (.str "deeds")) (fCons (fOp oAdd (fSlW (fOp oIx (fVar 1) (fC (.int 1))) (fNoP) (fPart (fC (.int 11)))) (fMk mkTup (fCons (fVar 0) (fNil)))) (fNil)))))) (gN 4)) (fAsg (fOp oAddR (fVar 4) (fMk mkLst (fCons (fMk mkTup (fCons (fC (.str "deeds")) (fCons (fOp oMul (fMk mkTup (fCons (fMk mkTup (fCons (fC (.str "look")) (fNil))) (fNil))) (fC (.int 13))) (fNil)))) (fCons (fMk mkTup (fCons (fC (.str "deeds")) (fCons (fCall bLst (fCons (fOp oIx (fVar 2) (fC (.int 1))) (fNil))) (fNil)))) (fNil))))) (gN 4))))) (fIf (fTest (fOp oEq (fOp oIx (fVar 2) (fC (.int 0))) (fC (.str "sums")))) (fSeq (fAsg (fOp oAddR (fOp oAdd (fVar 4) (fComp cLst (iSeq (fMk mkLst (fCons (fOp (iOp okPow (fun i j => i ^ j.toNat)) (fC (.int 10)) (fC (.int 9))) (fCons (fUn uNeg (fOp (iOp okPow (fun i j => i ^ j.toNat)) (fC (.int 10)) (fC (.int 9)))) (fCons (fC (.bl true)) (fCons (fC (.str "1")) (fCons (fMk mkTup (fCons (fC (.int 1)) (fNil))) (fCons (fMk mkLst (fCons (fC (.int 1)) (fNil))) (fNil))))))))) [none] (gN 0) (fTrue) (fMk mkTup (fCons (fC (.str "sums")) (fCons (fMk mkTup (fCons (fVar 0) (fNil))) (fNil)))))) (fMk mkLst (fCons (fMk mkTup (fCons (fC (.str "sums")) (fCons (fOp oMul (fMk mkTup (fCons (fC (.int 0)) (fNil))) (fC (.int 9))) (fNil)))) (fNil)))) (gN 4)) (fAsg (fOp oAddR (fVar 4) (fMk mkLst (fCons (fMk mkTup (fCons (fC (.str "sums")) (fCons (fC .non) (fNil)))) (fCons (fMk mkTup (fCons (fC (.str "sums")) (fCons (fCall bLst (fCons (fOp oIx (fVar 2) (fC (.int 1))) (fNil))) (fNil)))) (fCons (fMk mkTup (fCons (fC (.str "sums")) (fCons (fC (.int 5)) (fNil)))) (fNil)))))) (gN 4))) (fAsg (fOp oAddR (fVar 4) (fComp cLst (iSeq (fMk mkLst (fCons (fOp (iOp okPow (fun i j => i ^ j.toNat)) (fC (.int 10)) (fC (.int 9))) (fCons (fUn uNeg (fOp (iOp okPow (fun i j => i ^ j.toNat)) (fC (.int 10)) (fC (.int 9)))) (fCons (fC (.bl true)) (fCons (fC .non) (fCons (fC (.str "1")) (fCons (fMk mkTup (fCons (fC (.int 1)) (fNil))) (fCons (fMk mkLst (fCons (fC (.int 1)) (fNil))) (fNil)))))))))) [none, some 2] (gN 0) (fTrue) (fOp oAdd (fOp oAdd (fSlW (fVar 1) (fNoP) (fPart (fC (.int 1)))) (fMk mkTup (fCons (fVar 0) (fNil)))) (fSlW (fVar 1) (fPart (fC (.int 2))) (fNoP))))) (gN 4)))) (fSeq (fIf (fTest (fOp oGt (fVar 3) (fC (.int 0)))) (fAsg (fOp oAddR (fVar 4) (fComp cLst (iSeq (fMk mkLst (fCons (fC (.int 0)) (fCons (fVar 3) (fCons (fUn uNeg (fC (.int 1))) (fCons (fC (.bl true)) (fCons (fC .non) (fCons (fC (.str "1")) (fCons (fMk mkTup (fCons (fC (.int 1)) (fNil))) (fNil)))))))))) [none, some 2] (gN 0) (fTrue) (fOp oAdd (fSlW (fVar 1) (fNoP) (fPart (fC (.int 2)))) (fMk mkTup (fCons (fVar 0) (fNil)))))) (gN 4)) (fSkip)) (fRet (fVar 4))))))
def b_44 (T : Nat → Fn) : FS := fSeq (fAsg (fCall (T 35) (fCons (fVar 0) (fCons (fOp oIx (fVar 1) (fC (.int 1))) (fNil)))) (gN 3)) (fSeq (fAsg (fOp oIx (fVar 2) (fVar 3)) (gN 4)) (fSeq (fAsg (fMk mkRef (fCons (fCall bLst (fCons (fVar 2) (fNil))) (fCons (fSlW (fVar 2) (fPart (fC (.int 1))) (fNoP)) (fCons (fOp oAdd (fVar 2) (fSlW (fVar 2) (fNoP) (fPart (fC (.int 1))))) (fCons (fOp oAdd (fVar 2) (fMk mkTup (fCons (fC .non) (fNil)))) (fCons (fOp oIx (fVar 2) (fC (.int 0))) (fCons (fMk mkTup (fCons (fVar 2) (fNil))) (fNil)))))))) (gN 5)) (fSeq (fAsg (fOp oAddR (fVar 5) (fComp cLst (iSeq (fCall (T 43) (fCons (fVar 1) (fCons (fVar 3) (fCons (fVar 4) (fNil)))))) [none, some 2, some 3] (gN 0) (fTrue) (fOp oAdd (fOp oAdd (fSlW (fVar 1) (fNoP) (fPart (fVar 2))) (fMk mkTup (fCons (fVar 0) (fNil)))) (fSlW (fVar 1) (fPart (fOp oAdd (fVar 2) (fC (.int 1)))) (fNoP))))) (gN 5)) (fSeq (fIf (fTest (fOp oGt (fOp oIx (fVar 1) (fC (.int 1))) (fC (.int 1)))) (fSeq (fAsg (fMk mkLst (fCons (fMk mkTup (fCons (fC (.str "sums")) (fCons (fMk mkTup (fCons (fC (.int 1)) (fNil))) (fNil)))) (fCons (fMk mkTup (fCons (fC (.str "name")) (fCons (fC (.int 999)) (fNil)))) (fCons (fMk mkTup (fCons (fC (.str "deeds")) (fCons (fMk mkTup (fCons (fMk mkTup (fCons (fC (.str "look")) (fNil))) (fNil))) (fNil)))) (fNil))))) (gN 6)) (fAsg (fOp oAddR (fVar 5) (fComp cLst (iSeq (fVar 6)) [none, some 4, some 2, some 3] (gN 0) (fTest (fOp oNeD (fOp oIx (fVar 0) (fC (.int 0))) (fOp oIx (fVar 1) (fC (.int 0))))) (fOp oAdd (fOp oAdd (fSlW (fVar 2) (fNoP) (fPart (fVar 3))) (fMk mkTup (fCons (fVar 0) (fNil)))) (fSlW (fVar 2) (fPart (fOp oAdd (fVar 3) (fC (.int 1)))) (fNoP))))) (gN 5))) (fSkip)) (fSeq (fIf (fAnd (fTest (fOp oGt (fOp oIx (fVar 1) (fC (.int 1))) (fC (.int 1)))) (fTest (fOp oEq (fOp oIx (fVar 4) (fC (.int 0))) (fC (.str "name"))))) (fDrop (fApp (fVar 5) (fOp oAdd (fOp oAdd (fSlW (fVar 2) (fNoP) (fPart (fVar 3))) (fMk mkTup (fCons (fOp oIx (fVar 2) (fOp (iOp okAny (· - ·)) (fVar 3) (fC (.int 1)))) (fNil)))) (fSlW (fVar 2) (fPart (fOp oAdd (fVar 3) (fC (.int 1)))) (fNoP))))) (fSkip)) (fSeq (fIf (fAnd (fTest (fOp oGt (fOp oIx (fVar 1) (fC (.int 1))) (fC (.int 1)))) (fTest (fOp oIn (fOp oIx (fVar 4) (fC (.int 0))) (fMk mkTup (fCons (fC (.str "least")) (fCons (fC (.str "closer")) (fNil))))))) (fDrop (fApp (fVar 5) (fOp oAdd (fOp oAdd (fSlW (fVar 2) (fNoP) (fPart (fVar 3))) (fMk mkTup (fCons (fOp oAdd (fSlW (fVar 4) (fNoP) (fPart (fC (.int 2)))) (fMk mkTup (fCons (fOp oAdd (fC (.int 1)) (fOp (iOp okMod (· % ·)) (fOp oIx (fVar 4) (fC (.int 2))) (fOp oIx (fVar 1) (fC (.int 1))))) (fNil)))) (fNil)))) (fSlW (fVar 2) (fPart (fOp oAdd (fVar 3) (fC (.int 1)))) (fNoP))))) (fSkip)) (fRet (fVar 5))))))))
def b_45 (T : Nat → Fn) : FS := fSeq (fAsg (fMk mkLst (fCons (fCall bTup (fCons (fComp cLst (iR1 (fCons (fVar 0) (fNil))) [none] (gN 0) (fTrue) (fMk mkTup (fCons (fC (.str "name")) (fCons (fOp oMul (fC (.int 3)) (fVar 0)) (fNil))))) (fNil))) (fCons (fOp oMul (fMk mkTup (fCons (fMk mkTup (fCons (fC (.str "least")) (fCons (fC (.int 5)) (fCons (fC (.int 1)) (fNil))))) (fNil))) (fVar 0)) (fNil)))) (gN 1)) (fRet (fOp oAdd (fVar 1) (fMk mkLst (fCons (fOp oMul (fMk mkTup (fCons (fMk mkTup (fCons (fC (.str "sums")) (fCons (fMk mkTup (fCons (fC (.int 1)) (fCons (fC .non) (fNil)))) (fNil)))) (fNil))) (fVar 0)) (fCons (fOp oMul (fMk mkTup (fCons (fMk mkTup (fCons (fC (.str "closer")) (fCons (fC (.int 5)) (fCons (fC (.int 2)) (fNil))))) (fNil))) (fVar 0)) (fNil))))))
def b_46 (T : Nat → Fn) : FS := fSeq (fFor (iR1 (fCons (fCall bMax (fCons (fC (.int 2)) (fCons (fCall bMin (fCons (fC (.int 4)) (fCons (fCall bLen (fCons (fVar 0) (fNil))) (fNil)))) (fNil)))) (fNil))) (gN 1) (fSeq (fAsg (fCall (T 34) (fCons (fVar 0) (fCons (fVar 1) (fNil)))) (gN 2)) (fSeq (fFor (iR1 (fCons (fC (.int 3)) (fNil))) (gN 3) (fSeq (fAsg (fOp oAdd (fC (.int 1)) (fCall (T 35) (fCons (fVar 2) (fCons (fC (.int 5)) (fNil))))) (gN 4)) (fSeq (fAsg (fCall (T 37) (fCons (fVar 2) (fCons (fVar 4) (fNil)))) (gN 5)) (fSeq (fAsg (fCall bTup (fCons (fComp cLst (iR1 (fCons (fVar 4) (fNil))) [none, some 2, some 5] (gN 0) (fTrue) (fCall (T 41) (fCons (fVar 1) (fCons (fVar 2) (fCons (fVar 0) (fCons (fCall (T 35) (fCons (fVar 1) (fCons (fC (.int 13)) (fNil)))) (fNil))))))) (fNil))) (gN 6)) (fSeq (fIf (fAnd (fTest (fOp oNeD (fOp oIx (fVar 5) (fC (.int 0))) (fC (.str "shared")))) (fTest (fOp oGt (fCall (T 35) (fCons (fVar 2) (fCons (fC (.int 3)) (fNil)))) (fC (.int 0))))) (fAsg (fCall (T 42) (fCons (fVar 2) (fCons (fVar 4) (fNil)))) (gN 6)) (fSkip)) (fSeq (fIf (fTest (fOp oIsnt (fCall (T 27) (fCons (fVar 5) (fCons (fVar 6) (fNil)))) (fC (.bl true)))) (fRet (fC (.bl false))) (fSkip)) (fSeq (fAsg (fOp oAdd (fCall (T 44) (fCons (fVar 2) (fCons (fVar 5) (fCons (fVar 6) (fNil))))) (fMk mkLst (fCons (fC .non) (fCons (fC (.bl true)) (fCons (fC (.int 0)) (fCons (fC (.str "")) (fCons (fC .edc) (fCons (fOp oMul (fMk mkTup (fCons (fC .non) (fNil))) (fVar 4)) (fCons (fOp oMul (fMk mkTup (fCons (fMk mkTup (fNil)) (fNil))) (fVar 4)) (fNil)))))))))) (gN 7)) (fIf (fOr (fNot (fTru (fCall bAll (fCons (fComp cLst (iSeq (fVar 7)) [none, some 5] (gN 0) (fTrue) (fOp oIs (fCall (T 27) (fCons (fVar 1) (fCons (fVar 0) (fNil)))) (fC (.bl false)))) (fNil))))) (fTest (fOp oIsnt (fCall (T 27) (fCons (fVar 5) (fCons (fVar 6) (fNil)))) (fC (.bl true))))) (fRet (fC (.bl false))) (fSkip))))))))) (fSeq (fAsg (fOp oAdd (fC (.int 1)) (fCall (T 35) (fCons (fVar 2) (fCons (fC (.int 5)) (fNil))))) (gN 4)) (fFor (iSeq (fMk mkLst (fCons (fMk mkTup (fCons (fC (.str "shared")) (fCons (fVar 4) (fCons (fC (.int 2)) (fCons (fC (.int 1)) (fCons (fC (.int 1)) (fCons (fC (.int 3)) (fNil)))))))) (fCons (fCall (T 39) (fCons (fVar 2) (fCons (fVar 4) (fNil)))) (fNil))))) (gN 8) (fIf (fNot (fTru (fCall bAll (fCons (fComp cLst (iSeq (fCall (T 45) (fCons (fVar 4) (fNil)))) [none, some 8] (gN 0) (fTrue) (fOp oIs (fCall (T 27) (fCons (fVar 1) (fCons (fVar 0) (fNil)))) (fC (.bl false)))) (fNil))))) (fRet (fC (.bl false))) (fSkip))))))) (fRet (fC (.bl true)))
def tab : Nat → Nat → Fn
  | 0, _ => fun _ _ => none
  | k + 1, 1 => (runFn false 1 1 (b_1 (tab k)))
  | k + 1, 2 => (runFn false 3 3 (b_2 (tab k)))
  | k + 1, 3 => (runFn false 2 2 (b_3 (tab k)))
  | k + 1, 4 => (runFn false 3 3 (b_4 (tab k)))
  | k + 1, 5 => (runFn false 1 1 (b_5 (tab k)))
  | k + 1, 8 => (runFn false 2 2 (b_8 (tab k)))
  | k + 1, 9 => (runFn false 1 1 (b_9 (tab k)))
  | k + 1, 10 => (runFn false 1 1 (b_10 (tab k)))
  | k + 1, 15 => (runFn false 1 1 (b_15 (tab k)))
  | k + 1, 16 => (runFn false 2 2 (b_16 (tab k)))
  | k + 1, 18 => (runFn false 4 3 (b_18 (tab k)))
  | k + 1, 19 => (runFn false 3 3 (b_19 (tab k)))
  | k + 1, 20 => (runFn false 2 2 (b_20 (tab k)))
  | k + 1, 27 => (runFn false 3 2 (b_27 (tab k)))
  | k + 1, 28 => (runFn false 4 3 (b_28 (tab k)))
  | k + 1, 29 => (runFn false 3 3 (b_29 (tab k)))
  | k + 1, 30 => (runFn false 1 1 (b_30 (tab k)))
  | k + 1, 31 => (runFn false 3 1 (b_31 (tab k)))
  | k + 1, 32 => (runFn false 2 2 (b_32 (tab k)))
  | k + 1, 34 => (runFn true 3 2 (b_34 (tab k)))
  | k + 1, 35 => (runFn false 6 2 (b_35 (tab k)))
  | k + 1, 36 => (runFn false 2 2 (b_36 (tab k)))
  | k + 1, 37 => (runFn false 6 2 (b_37 (tab k)))
  | k + 1, 38 => (runFn false 10 4 (b_38 (tab k)))
  | k + 1, 39 => (runFn false 4 2 (b_39 (tab k)))
  | k + 1, 40 => (runFn false 2 1 (b_40 (tab k)))
  | k + 1, 41 => (runFn false 7 4 (b_41 (tab k)))
  | k + 1, 42 => (runFn false 10 2 (b_42 (tab k)))
  | k + 1, 43 => pureFn (runFn false 6 3 (b_43 (tab k)))
  | k + 1, 44 => (runFn false 7 3 (b_44 (tab k)))
  | k + 1, 45 => pureFn (runFn false 2 1 (b_45 (tab k)))
  | k + 1, 46 => (runFn false 9 1 (b_46 (tab k)))
  | _ + 1, _ => fun _ _ => none
theorem tab_len_1 {k : Nat} : ∀ ds g r, tab k 1 ds g = some r → ds.length = 1 := fun ds g r h => by
  cases k with
  | zero => cases h
  | succ k => exact runFn_len ds g r h
theorem tab_len_2 {k : Nat} : ∀ ds g r, tab k 2 ds g = some r → ds.length = 3 := fun ds g r h => by
  cases k with
  | zero => cases h
  | succ k => exact runFn_len ds g r h
theorem tab_len_3 {k : Nat} : ∀ ds g r, tab k 3 ds g = some r → ds.length = 2 := fun ds g r h => by
  cases k with
  | zero => cases h
  | succ k => exact runFn_len ds g r h
theorem tab_len_4 {k : Nat} : ∀ ds g r, tab k 4 ds g = some r → ds.length = 3 := fun ds g r h => by
  cases k with
  | zero => cases h
  | succ k => exact runFn_len ds g r h
theorem tab_len_5 {k : Nat} : ∀ ds g r, tab k 5 ds g = some r → ds.length = 1 := fun ds g r h => by
  cases k with
  | zero => cases h
  | succ k => exact runFn_len ds g r h
theorem tab_len_8 {k : Nat} : ∀ ds g r, tab k 8 ds g = some r → ds.length = 2 := fun ds g r h => by
  cases k with
  | zero => cases h
  | succ k => exact runFn_len ds g r h
theorem tab_len_9 {k : Nat} : ∀ ds g r, tab k 9 ds g = some r → ds.length = 1 := fun ds g r h => by
  cases k with
  | zero => cases h
  | succ k => exact runFn_len ds g r h
theorem tab_len_10 {k : Nat} : ∀ ds g r, tab k 10 ds g = some r → ds.length = 1 := fun ds g r h => by
  cases k with
  | zero => cases h
  | succ k => exact runFn_len ds g r h
theorem tab_len_15 {k : Nat} : ∀ ds g r, tab k 15 ds g = some r → ds.length = 1 := fun ds g r h => by
  cases k with
  | zero => cases h
  | succ k => exact runFn_len ds g r h
theorem tab_len_16 {k : Nat} : ∀ ds g r, tab k 16 ds g = some r → ds.length = 2 := fun ds g r h => by
  cases k with
  | zero => cases h
  | succ k => exact runFn_len ds g r h
theorem tab_len_18 {k : Nat} : ∀ ds g r, tab k 18 ds g = some r → ds.length = 3 := fun ds g r h => by
  cases k with
  | zero => cases h
  | succ k => exact runFn_len ds g r h
theorem tab_len_19 {k : Nat} : ∀ ds g r, tab k 19 ds g = some r → ds.length = 3 := fun ds g r h => by
  cases k with
  | zero => cases h
  | succ k => exact runFn_len ds g r h
theorem tab_len_20 {k : Nat} : ∀ ds g r, tab k 20 ds g = some r → ds.length = 2 := fun ds g r h => by
  cases k with
  | zero => cases h
  | succ k => exact runFn_len ds g r h
theorem tab_len_27 {k : Nat} : ∀ ds g r, tab k 27 ds g = some r → ds.length = 2 := fun ds g r h => by
  cases k with
  | zero => cases h
  | succ k => exact runFn_len ds g r h
theorem tab_len_28 {k : Nat} : ∀ ds g r, tab k 28 ds g = some r → ds.length = 3 := fun ds g r h => by
  cases k with
  | zero => cases h
  | succ k => exact runFn_len ds g r h
theorem tab_len_29 {k : Nat} : ∀ ds g r, tab k 29 ds g = some r → ds.length = 3 := fun ds g r h => by
  cases k with
  | zero => cases h
  | succ k => exact runFn_len ds g r h
theorem tab_len_30 {k : Nat} : ∀ ds g r, tab k 30 ds g = some r → ds.length = 1 := fun ds g r h => by
  cases k with
  | zero => cases h
  | succ k => exact runFn_len ds g r h
theorem tab_len_31 {k : Nat} : ∀ ds g r, tab k 31 ds g = some r → ds.length = 1 := fun ds g r h => by
  cases k with
  | zero => cases h
  | succ k => exact runFn_len ds g r h
theorem tab_len_32 {k : Nat} : ∀ ds g r, tab k 32 ds g = some r → ds.length = 2 := fun ds g r h => by
  cases k with
  | zero => cases h
  | succ k => exact runFn_len ds g r h
theorem tab_len_34 {k : Nat} : ∀ ds g r, tab k 34 ds g = some r → ds.length = 2 := fun ds g r h => by
  cases k with
  | zero => cases h
  | succ k => exact runFn_len ds g r h
theorem tab_len_35 {k : Nat} : ∀ ds g r, tab k 35 ds g = some r → ds.length = 2 := fun ds g r h => by
  cases k with
  | zero => cases h
  | succ k => exact runFn_len ds g r h
theorem tab_len_36 {k : Nat} : ∀ ds g r, tab k 36 ds g = some r → ds.length = 2 := fun ds g r h => by
  cases k with
  | zero => cases h
  | succ k => exact runFn_len ds g r h
theorem tab_len_37 {k : Nat} : ∀ ds g r, tab k 37 ds g = some r → ds.length = 2 := fun ds g r h => by
  cases k with
  | zero => cases h
  | succ k => exact runFn_len ds g r h
theorem tab_len_38 {k : Nat} : ∀ ds g r, tab k 38 ds g = some r → ds.length = 4 := fun ds g r h => by
  cases k with
  | zero => cases h
  | succ k => exact runFn_len ds g r h
theorem tab_len_39 {k : Nat} : ∀ ds g r, tab k 39 ds g = some r → ds.length = 2 := fun ds g r h => by
  cases k with
  | zero => cases h
  | succ k => exact runFn_len ds g r h
theorem tab_len_40 {k : Nat} : ∀ ds g r, tab k 40 ds g = some r → ds.length = 1 := fun ds g r h => by
  cases k with
  | zero => cases h
  | succ k => exact runFn_len ds g r h
theorem tab_len_41 {k : Nat} : ∀ ds g r, tab k 41 ds g = some r → ds.length = 4 := fun ds g r h => by
  cases k with
  | zero => cases h
  | succ k => exact runFn_len ds g r h
theorem tab_len_42 {k : Nat} : ∀ ds g r, tab k 42 ds g = some r → ds.length = 2 := fun ds g r h => by
  cases k with
  | zero => cases h
  | succ k => exact runFn_len ds g r h
theorem tab_len_43 {k : Nat} : ∀ ds g r, tab k 43 ds g = some r → ds.length = 3 := fun ds g r h => by
  cases k with
  | zero => cases h
  | succ k => exact pureFn_len runFn_len ds g r h
theorem tab_len_44 {k : Nat} : ∀ ds g r, tab k 44 ds g = some r → ds.length = 3 := fun ds g r h => by
  cases k with
  | zero => cases h
  | succ k => exact runFn_len ds g r h
theorem tab_len_45 {k : Nat} : ∀ ds g r, tab k 45 ds g = some r → ds.length = 1 := fun ds g r h => by
  cases k with
  | zero => cases h
  | succ k => exact pureFn_len runFn_len ds g r h
end K09
namespace K09
open PySem PySem.Spec PyProof.Rows L2 L3
def top (i : Nat) : Stmt := PySem.Challenge.pw_wholeglance_k09_what_are_no_jobs.main.body.getD i (.Pass ⟨0, 0, 0, 0⟩)
abbrev N_1 : List Str := ["thing"]
abbrev P_1 : List Str := ["thing"]
theorem nd_1 : N_1.Nodup := by decide +kernel
theorem sc_1 : FnScope N_1 P_1 (defScope (top 1)) := ⟨rfl, rfl, rfl, nd_1, rfl, by decide +kernel, by decide +kernel⟩
abbrev N_2 : List Str := ["thing", "least", "most"]
abbrev P_2 : List Str := ["thing", "least", "most"]
theorem nd_2 : N_2.Nodup := by decide +kernel
theorem sc_2 : FnScope N_2 P_2 (defScope (top 2)) := ⟨rfl, rfl, rfl, nd_2, rfl, by decide +kernel, by decide +kernel⟩
abbrev N_3 : List Str := ["thing", "most"]
abbrev P_3 : List Str := ["thing", "most"]
theorem nd_3 : N_3.Nodup := by decide +kernel
theorem sc_3 : FnScope N_3 P_3 (defScope (top 3)) := ⟨rfl, rfl, rfl, nd_3, rfl, by decide +kernel, by decide +kernel⟩
abbrev N_4 : List Str := ["thing", "least", "most"]
abbrev P_4 : List Str := ["thing", "least", "most"]
theorem nd_4 : N_4.Nodup := by decide +kernel
theorem sc_4 : FnScope N_4 P_4 (defScope (top 4)) := ⟨rfl, rfl, rfl, nd_4, rfl, by decide +kernel, by decide +kernel⟩
abbrev N_5 : List Str := ["thing"]
abbrev P_5 : List Str := ["thing"]
theorem nd_5 : N_5.Nodup := by decide +kernel
theorem sc_5 : FnScope N_5 P_5 (defScope (top 5)) := ⟨rfl, rfl, rfl, nd_5, rfl, by decide +kernel, by decide +kernel⟩
abbrev N_8 : List Str := ["manner", "name"]
abbrev P_8 : List Str := ["manner", "name"]
theorem nd_8 : N_8.Nodup := by decide +kernel
theorem sc_8 : FnScope N_8 P_8 (defScope (top 8)) := ⟨rfl, rfl, rfl, nd_8, rfl, by decide +kernel, by decide +kernel⟩
abbrev N_9 : List Str := ["manner"]
abbrev P_9 : List Str := ["manner"]
theorem nd_9 : N_9.Nodup := by decide +kernel
theorem sc_9 : FnScope N_9 P_9 (defScope (top 9)) := ⟨rfl, rfl, rfl, nd_9, rfl, by decide +kernel, by decide +kernel⟩
abbrev N_10 : List Str := ["manner"]
abbrev P_10 : List Str := ["manner"]
theorem nd_10 : N_10.Nodup := by decide +kernel
theorem sc_10 : FnScope N_10 P_10 (defScope (top 10)) := ⟨rfl, rfl, rfl, nd_10, rfl, by decide +kernel, by decide +kernel⟩
abbrev N_15 : List Str := ["thing"]
abbrev P_15 : List Str := ["thing"]
theorem nd_15 : N_15.Nodup := by decide +kernel
theorem sc_15 : FnScope N_15 P_15 (defScope (top 15)) := ⟨rfl, rfl, rfl, nd_15, rfl, by decide +kernel, by decide +kernel⟩
abbrev N_16 : List Str := ["thing", "deep"]
abbrev P_16 : List Str := ["thing", "deep"]
theorem nd_16 : N_16.Nodup := by decide +kernel
abbrev N_c0 : List Str := ["part", "deep"]
theorem nd_c0 : N_c0.Nodup := by decide +kernel
theorem sc_16 : FnScope N_16 P_16 (defScope (top 16)) := ⟨rfl, rfl, rfl, nd_16, rfl, by decide +kernel, by decide +kernel⟩
abbrev N_18 : List Str := ["manner", "hand", "thing", "word"]
abbrev P_18 : List Str := ["manner", "hand", "thing"]
theorem nd_18 : N_18.Nodup := by decide +kernel
theorem sc_18 : FnScope N_18 P_18 (defScope (top 18)) := ⟨rfl, rfl, rfl, nd_18, rfl, by decide +kernel, by decide +kernel⟩
abbrev N_19 : List Str := ["manner", "hand", "place"]
abbrev P_19 : List Str := ["manner", "hand", "place"]
theorem nd_19 : N_19.Nodup := by decide +kernel
theorem sc_19 : FnScope N_19 P_19 (defScope (top 19)) := ⟨rfl, rfl, rfl, nd_19, rfl, by decide +kernel, by decide +kernel⟩
abbrev N_20 : List Str := ["manner", "value"]
abbrev P_20 : List Str := ["manner", "value"]
theorem nd_20 : N_20.Nodup := by decide +kernel
theorem sc_20 : FnScope N_20 P_20 (defScope (top 20)) := ⟨rfl, rfl, rfl, nd_20, rfl, by decide +kernel, by decide +kernel⟩
abbrev N_27 : List Str := ["manner", "thing", "hands"]
abbrev P_27 : List Str := ["manner", "thing"]
theorem nd_27 : N_27.Nodup := by decide +kernel
abbrev N_c1 : List Str := ["hand", "job", "manner"]
theorem nd_c1 : N_c1.Nodup := by decide +kernel
theorem sc_27 : FnScope N_27 P_27 (defScope (top 27)) := ⟨rfl, rfl, rfl, nd_27, rfl, by decide +kernel, by decide +kernel⟩
abbrev N_28 : List Str := ["manner", "hand", "thing", "word"]
abbrev P_28 : List Str := ["manner", "hand", "thing"]
theorem nd_28 : N_28.Nodup := by decide +kernel
theorem sc_28 : FnScope N_28 P_28 (defScope (top 28)) := ⟨rfl, rfl, rfl, nd_28, rfl, by decide +kernel, by decide +kernel⟩
abbrev N_29 : List Str := ["manner", "hand", "thing"]
abbrev P_29 : List Str := ["manner", "hand", "thing"]
theorem nd_29 : N_29.Nodup := by decide +kernel
abbrev N_c2 : List Str := ["deed", "manner", "hand"]
theorem nd_c2 : N_c2.Nodup := by decide +kernel
theorem sc_29 : FnScope N_29 P_29 (defScope (top 29)) := ⟨rfl, rfl, rfl, nd_29, rfl, by decide +kernel, by decide +kernel⟩
abbrev N_30 : List Str := ["thing"]
abbrev P_30 : List Str := ["thing"]
theorem nd_30 : N_30.Nodup := by decide +kernel
abbrev N_c3 : List Str := ["item"]
theorem nd_c3 : N_c3.Nodup := by decide +kernel
theorem sc_30 : FnScope N_30 P_30 (defScope (top 30)) := ⟨rfl, rfl, rfl, nd_30, rfl, by decide +kernel, by decide +kernel⟩
abbrev N_31 : List Str := ["jobs", "place", "job"]
abbrev P_31 : List Str := ["jobs"]
theorem nd_31 : N_31.Nodup := by decide +kernel
abbrev N_c4 : List Str := ["other", "job"]
theorem nd_c4 : N_c4.Nodup := by decide +kernel
theorem sc_31 : FnScope N_31 P_31 (defScope (top 31)) := ⟨rfl, rfl, rfl, nd_31, rfl, by decide +kernel, by decide +kernel⟩
abbrev N_32 : List Str := ["job", "other"]
abbrev P_32 : List Str := ["job", "other"]
theorem nd_32 : N_32.Nodup := by decide +kernel
theorem sc_32 : FnScope N_32 P_32 (defScope (top 32)) := ⟨rfl, rfl, rfl, nd_32, rfl, by decide +kernel, by decide +kernel⟩
abbrev N_34 : List Str := ["_law_script", "_law_k", "_law_cell"]
abbrev P_34 : List Str := ["_law_script", "_law_k"]
theorem nd_34 : N_34.Nodup := by decide +kernel
theorem sc_34 : FnScope N_34 P_34 (defScope (top 34)) := ⟨rfl, rfl, rfl, nd_34, rfl, by decide +kernel, by decide +kernel⟩
abbrev N_35 : List Str := ["_law_hand_here", "_law_many", "_law_digit", "_law_turn", "_law_mixed", "_law_other"]
abbrev P_35 : List Str := ["_law_hand_here", "_law_many"]
theorem nd_35 : N_35.Nodup := by decide +kernel
theorem sc_35 : FnScope N_35 P_35 (defScope (top 35)) := ⟨rfl, rfl, rfl, nd_35, rfl, by decide +kernel, by decide +kernel⟩
abbrev N_36 : List Str := ["_law_hand_here", "_law_some"]
abbrev P_36 : List Str := ["_law_hand_here", "_law_some"]
theorem nd_36 : N_36.Nodup := by decide +kernel
theorem sc_36 : FnScope N_36 P_36 (defScope (top 36)) := ⟨rfl, rfl, rfl, nd_36, rfl, by decide +kernel, by decide +kernel⟩
abbrev N_37 : List Str := ["_law_hand_here", "_law_hands", "_law_way", "_law_turn", "_law_moves", "_law_bits"]
abbrev P_37 : List Str := ["_law_hand_here", "_law_hands"]
theorem nd_37 : N_37.Nodup := by decide +kernel
theorem sc_37 : FnScope N_37 P_37 (defScope (top 37)) := ⟨rfl, rfl, rfl, nd_37, rfl, by decide +kernel, by decide +kernel⟩
abbrev N_38 : List Str := ["_law_hand_here", "_law_boxes", "_law_hands", "_law_look", "_law_many", "_law_rows", "_law_k", "_law_box", "_law_row", "_law_contents"]
abbrev P_38 : List Str := ["_law_hand_here", "_law_boxes", "_law_hands", "_law_look"]
theorem nd_38 : N_38.Nodup := by decide +kernel
abbrev N_c5 : List Str := ["_law_h", "_law_hand_here"]
theorem nd_c5 : N_c5.Nodup := by decide +kernel
abbrev N_c6 : List Str := ["_law_j", "_law_hand_here"]
theorem nd_c6 : N_c6.Nodup := by decide +kernel
abbrev N_c7 : List Str := ["_law_one", "_law_hand_here", "_law_many"]
theorem nd_c7 : N_c7.Nodup := by decide +kernel
theorem sc_38 : FnScope N_38 P_38 (defScope (top 38)) := ⟨rfl, rfl, rfl, nd_38, rfl, by decide +kernel, by decide +kernel⟩
abbrev N_39 : List Str := ["_law_hand_here", "_law_hands", "_law_boxes", "_law_puts"]
abbrev P_39 : List Str := ["_law_hand_here", "_law_hands"]
theorem nd_39 : N_39.Nodup := by decide +kernel
abbrev N_c8 : List Str := ["_law_h", "_law_hand_here", "_law_boxes", "_law_hands"]
theorem nd_c8 : N_c8.Nodup := by decide +kernel
abbrev N_c9 : List Str := ["_law_h", "_law_hand_here", "_law_boxes", "_law_hands"]
theorem nd_c9 : N_c9.Nodup := by decide +kernel
theorem sc_39 : FnScope N_39 P_39 (defScope (top 39)) := ⟨rfl, rfl, rfl, nd_39, rfl, by decide +kernel, by decide +kernel⟩
abbrev N_40 : List Str := ["_law_hand_here", "_law_way"]
abbrev P_40 : List Str := ["_law_hand_here"]
theorem nd_40 : N_40.Nodup := by decide +kernel
theorem sc_40 : FnScope N_40 P_40 (defScope (top 40)) := ⟨rfl, rfl, rfl, nd_40, rfl, by decide +kernel, by decide +kernel⟩
abbrev N_41 : List Str := ["_law_hand_here", "_law_manner_here", "_law_own", "_law_many", "_law_row", "_law_k", "_law_place"]
abbrev P_41 : List Str := ["_law_hand_here", "_law_manner_here", "_law_own", "_law_many"]
theorem nd_41 : N_41.Nodup := by decide +kernel
theorem sc_41 : FnScope N_41 P_41 (defScope (top 41)) := ⟨rfl, rfl, rfl, nd_41, rfl, by decide +kernel, by decide +kernel⟩
abbrev N_42 : List Str := ["_law_hand_here", "_law_hands", "_law_way", "_law_wait", "_law_rounds", "_law_jobs", "_law_own", "_law_number", "_law_items", "_law_ident"]
abbrev P_42 : List Str := ["_law_hand_here", "_law_hands"]
theorem nd_42 : N_42.Nodup := by decide +kernel
abbrev N_c10 : List Str := ["_law_k", "_law_hand_here"]
theorem nd_c10 : N_c10.Nodup := by decide +kernel
theorem sc_42 : FnScope N_42 P_42 (defScope (top 42)) := ⟨rfl, rfl, rfl, nd_42, rfl, by decide +kernel, by decide +kernel⟩
abbrev N_43 : List Str := ["_law_manner_here", "_law_own", "_law_job", "_law_most", "_law_odd", "_law_bad"]
abbrev P_43 : List Str := ["_law_manner_here", "_law_own", "_law_job"]
theorem nd_43 : N_43.Nodup := by decide +kernel
abbrev N_c11 : List Str := ["_law_one", "_law_job"]
theorem nd_c11 : N_c11.Nodup := by decide +kernel
abbrev N_c12 : List Str := ["_law_one"]
theorem nd_c12 : N_c12.Nodup := by decide +kernel
abbrev N_c13 : List Str := ["_law_one", "_law_job"]
theorem nd_c13 : N_c13.Nodup := by decide +kernel
abbrev N_c14 : List Str := ["_law_one", "_law_job"]
theorem nd_c14 : N_c14.Nodup := by decide +kernel
theorem sc_43 : FnScope N_43 P_43 (defScope (top 43)) := ⟨rfl, rfl, rfl, nd_43, rfl, by decide +kernel, by decide +kernel⟩
abbrev N_44 : List Str := ["_law_hand_here", "_law_manner_here", "_law_jobs", "_law_own", "_law_job", "_law_found", "_law_words"]
abbrev P_44 : List Str := ["_law_hand_here", "_law_manner_here", "_law_jobs"]
theorem nd_44 : N_44.Nodup := by decide +kernel
abbrev N_c15 : List Str := ["_law_odd", "_law_jobs", "_law_own"]
theorem nd_c15 : N_c15.Nodup := by decide +kernel
abbrev N_c16 : List Str := ["_law_one", "_law_job", "_law_jobs", "_law_own"]
theorem nd_c16 : N_c16.Nodup := by decide +kernel
theorem sc_44 : FnScope N_44 P_44 (defScope (top 44)) := ⟨rfl, rfl, rfl, nd_44, rfl, by decide +kernel, by decide +kernel⟩
abbrev N_45 : List Str := ["_law_hands", "_law_found"]
abbrev P_45 : List Str := ["_law_hands"]
theorem nd_45 : N_45.Nodup := by decide +kernel
abbrev N_c17 : List Str := ["_law_h"]
theorem nd_c17 : N_c17.Nodup := by decide +kernel
theorem sc_45 : FnScope N_45 P_45 (defScope (top 45)) := ⟨rfl, rfl, rfl, nd_45, rfl, by decide +kernel, by decide +kernel⟩
abbrev N_46 : List Str := ["_law_script", "_law_k", "_law_hand_here", "_law_turn", "_law_hands", "_law_manner_here", "_law_jobs", "_law_some", "_law_other"]
abbrev P_46 : List Str := ["_law_script"]
theorem nd_46 : N_46.Nodup := by decide +kernel
abbrev N_c18 : List Str := ["_law_own", "_law_hand_here", "_law_manner_here"]
theorem nd_c18 : N_c18.Nodup := by decide +kernel
abbrev N_c19 : List Str := ["_law_one", "_law_manner_here"]
theorem nd_c19 : N_c19.Nodup := by decide +kernel
abbrev N_c20 : List Str := ["_law_one", "_law_other"]
theorem nd_c20 : N_c20.Nodup := by decide +kernel
theorem sc_46 : FnScope N_46 P_46 (defScope (top 46)) := ⟨rfl, rfl, rfl, nd_46, rfl, by decide +kernel, by decide +kernel⟩
structure Fa (K : PySem.W.Frag) (mg : Str → Option Value) (n : Str) (f : Addr) (fd : FuncData) (ps : List Str) : Prop where
  m : mg n = some (.ref f)
  k : PySem.W.keepIn K (.ref f) = true
  d : Binds K fd ps []
structure Cn (P : Program) (w : World) (K : PySem.W.Frag) (mg : Str → Option Value) (base : Heap) (k : Nat) (f : Nat → Addr) (fd : Nat → FuncData) : Prop where
  o_1 : FnOk P w K mg base CX0 k (f 1) (fd 1) P_1 (spD K 1 (tab k 1))
  q_1 : Fa K mg "is_whole" (f 1) (fd 1) P_1
  o_2 : FnOk P w K mg base CX0 k (f 2) (fd 2) P_2 (spD K 3 (tab k 2))
  q_2 : Fa K mg "is_within" (f 2) (fd 2) P_2
  o_3 : FnOk P w K mg base CX0 k (f 3) (fd 3) P_3 (spD K 2 (tab k 3))
  q_3 : Fa K mg "is_figured" (f 3) (fd 3) P_3
  o_4 : FnOk P w K mg base CX0 k (f 4) (fd 4) P_4 (spD K 3 (tab k 4))
  q_4 : Fa K mg "is_tuple_of" (f 4) (fd 4) P_4
  o_5 : FnOk P w K mg base CX0 k (f 5) (fd 5) P_5 (spD K 1 (tab k 5))
  q_5 : Fa K mg "word_of" (f 5) (fd 5) P_5
  o_8 : FnOk P w K mg base CX0 k (f 8) (fd 8) P_8 (spD K 2 (tab k 8))
  q_8 : Fa K mg "number_of" (f 8) (fd 8) P_8
  o_9 : FnOk P w K mg base CX0 k (f 9) (fd 9) P_9 (spD K 1 (tab k 9))
  q_9 : Fa K mg "hands_of" (f 9) (fd 9) P_9
  o_10 : FnOk P w K mg base CX0 k (f 10) (fd 10) P_10 (spD K 1 (tab k 10))
  q_10 : Fa K mg "places_of" (f 10) (fd 10) P_10
  o_15 : FnOk P w K mg base CX0 k (f 15) (fd 15) P_15 (spD K 1 (tab k 15))
  q_15 : Fa K mg "is_value" (f 15) (fd 15) P_15
  o_16 : FnOk P w K mg base CX0 k (f 16) (fd 16) P_16 (spD K 2 (tab k 16))
  q_16 : Fa K mg "is_value_within" (f 16) (fd 16) P_16
  o_18 : FnOk P w K mg base CX0 k (f 18) (fd 18) P_18 (spD K 3 (tab k 18))
  q_18 : Fa K mg "is_deed" (f 18) (fd 18) P_18
  o_19 : FnOk P w K mg base CX0 k (f 19) (fd 19) P_19 (spD K 3 (tab k 19))
  q_19 : Fa K mg "may_put_at" (f 19) (fd 19) P_19
  o_20 : FnOk P w K mg base CX0 k (f 20) (fd 20) P_20 (spD K 2 (tab k 20))
  q_20 : Fa K mg "may_put" (f 20) (fd 20) P_20
  o_27 : FnOk P w K mg base CX0 k (f 27) (fd 27) P_27 (spD K 2 (tab k 27))
  q_27 : Fa K mg "is_jobs" (f 27) (fd 27) P_27
  o_28 : FnOk P w K mg base CX0 k (f 28) (fd 28) P_28 (spD K 3 (tab k 28))
  q_28 : Fa K mg "is_job" (f 28) (fd 28) P_28
  o_29 : FnOk P w K mg base CX0 k (f 29) (fd 29) P_29 (spD K 3 (tab k 29))
  q_29 : Fa K mg "is_row_of_deeds" (f 29) (fd 29) P_29
  o_30 : FnOk P w K mg base CX0 k (f 30) (fd 30) P_30 (spD K 1 (tab k 30))
  q_30 : Fa K mg "are_items" (f 30) (fd 30) P_30
  o_31 : FnOk P w K mg base CX0 k (f 31) (fd 31) P_31 (spD K 1 (tab k 31))
  q_31 : Fa K mg "go_together" (f 31) (fd 31) P_31
  o_32 : FnOk P w K mg base CX0 k (f 32) (fd 32) P_32 (spD K 2 (tab k 32))
  q_32 : Fa K mg "are_fellows" (f 32) (fd 32) P_32
  o_34 : FnOk P w K mg base CX0 k (f 34) (fd 34) P_34 (spD K 2 (tab k 34))
  q_34 : Fa K mg "_law_hand" (f 34) (fd 34) P_34
  o_35 : FnOk P w K mg base CX0 k (f 35) (fd 35) P_35 (spD K 2 (tab k 35))
  q_35 : Fa K mg "_law_take" (f 35) (fd 35) P_35
  o_36 : FnOk P w K mg base CX0 k (f 36) (fd 36) P_36 (spD K 2 (tab k 36))
  q_36 : Fa K mg "_law_pick" (f 36) (fd 36) P_36
  o_37 : FnOk P w K mg base CX0 k (f 37) (fd 37) P_37 (spD K 2 (tab k 37))
  q_37 : Fa K mg "_law_manner" (f 37) (fd 37) P_37
  o_38 : FnOk P w K mg base CX0 k (f 38) (fd 38) P_38 (spD K 4 (tab k 38))
  q_38 : Fa K mg "_law_table" (f 38) (fd 38) P_38
  o_39 : FnOk P w K mg base CX0 k (f 39) (fd 39) P_39 (spD K 2 (tab k 39))
  q_39 : Fa K mg "_law_tables" (f 39) (fd 39) P_39
  o_40 : FnOk P w K mg base CX0 k (f 40) (fd 40) P_40 (spD K 1 (tab k 40))
  q_40 : Fa K mg "_law_plain_value" (f 40) (fd 40) P_40
  o_41 : FnOk P w K mg base CX0 k (f 41) (fd 41) P_41 (spD K 4 (tab k 41))
  q_41 : Fa K mg "_law_deeds" (f 41) (fd 41) P_41
  o_42 : FnOk P w K mg base CX0 k (f 42) (fd 42) P_42 (spD K 2 (tab k 42))
  q_42 : Fa K mg "_law_built" (f 42) (fd 42) P_42
  o_43 : FnOk P w K mg base CX0 k (f 43) (fd 43) P_43 (spD K 3 (tab k 43))
  q_43 : Fa K mg "_law_odd_jobs" (f 43) (fd 43) P_43
  o_44 : FnOk P w K mg base CX0 k (f 44) (fd 44) P_44 (spD K 3 (tab k 44))
  q_44 : Fa K mg "_law_spoilt" (f 44) (fd 44) P_44
  o_45 : FnOk P w K mg base CX0 k (f 45) (fd 45) P_45 (spD K 1 (tab k 45))
  q_45 : Fa K mg "_law_others" (f 45) (fd 45) P_45
  o_46 : FnOk P w K mg base CX0 k (f 46) (fd 46) P_46 (spD K 1 (tab k 46))
  q_46 : Fa K mg "law" (f 46) (fd 46) P_46
  z_all : mg "all" = none
  z_bool : mg "bool" = none
  z_enumerate : mg "enumerate" = none
  z_int : mg "int" = none
  z_isinstance : mg "isinstance" = none
  z_len : mg "len" = none
  z_list : mg "list" = none
  z_max : mg "max" = none
  z_min : mg "min" = none
  z_range : mg "range" = none
  z_set : mg "set" = none
  z_sorted : mg "sorted" = none
  z_str : mg "str" = none
  z_tuple : mg "tuple" = none
  c_MOST_DEEDS : ∃ t, mg "MOST_DEEDS" = some (.int 12 t)
  c_MOST_DEEP : ∃ t, mg "MOST_DEEP" = some (.int 3 t)
  c_MOST_ITEMS : ∃ t, mg "MOST_ITEMS" = some (.int 8 t)
  c_MOST_PARTS : ∃ t, mg "MOST_PARTS" = some (.int 8 t)
  c_MOST_ROUNDS : ∃ t, mg "MOST_ROUNDS" = some (.int 6 t)
  c_NINE_FIGURES : ∃ t, mg "NINE_FIGURES" = some (.int 999999999 t)
  c_TWELVE_FIGURES : ∃ t, mg "TWELVE_FIGURES" = some (.int 999999999999 t)
  t_LENGTHS : ∃ a, mg "LENGTHS" = some (.ref a) ∧ DctAt w K a tbl_LENGTHS
  t_NUMBERS : ∃ a, mg "NUMBERS" = some (.ref a) ∧ DctAt w K a tbl_NUMBERS
section
variable {P : Program} {w : World} {K : PySem.W.Frag} {mg : Str → Option Value} {base : Heap} {k : Nat} {f : Nat → Addr} {fd : Nat → FuncData}
section
variable {cdv : Value} {A : Around} {outer : List Env} {s : Shared} {H : Hp} {E : XK}
set_option maxHeartbeats 0 in
theorem body_1 (C : Cn P w K mg base k f fd) (hr : Room k (A.deeper (envOfC "is_whole" (defScope (top 1)) s.heap.objs.size (f 1) cdv))) :
 DSs (cxOf CX0 P w K mg base N_1 "is_whole" (defScope (top 1)) (f 1) cdv A outer s H E).nox (defBody (top 1)) (b_1 (tab k)) := by
 have hu := hr.units
 unfold b_1
 refine dss_one ?_
 refine ds_ret ?_
 refine de_and ?_ ?_
 refine de_isi .int C.z_isinstance C.z_int ?_
 exact de_var 0
 refine de_one ?_
 refine de_not ?_
 refine de_isi .bool C.z_isinstance C.z_bool ?_
 exact de_var 0
set_option maxHeartbeats 0 in
theorem body_2 (C : Cn P w K mg base k f fd) (hr : Room k (A.deeper (envOfC "is_within" (defScope (top 2)) s.heap.objs.size (f 2) cdv))) :
 DSs (cxOf CX0 P w K mg base N_2 "is_within" (defScope (top 2)) (f 2) cdv A outer s H E).nox (defBody (top 2)) (b_2 (tab k)) := by
 have hu := hr.units
 unfold b_2
 refine dss_one ?_
 refine ds_ret ?_
 refine de_and ?_ ?_
 refine de_call C.o_1 hr C.q_1.m C.q_1.k C.q_1.d tab_len_1 ?_
 refine da_cons ?_ ?_
 exact de_var 0
 exact da_nil
 refine de_one ?_
 refine de_chain od_le od_le ?_ ?_ ?_
 exact de_var 1
 exact de_var 0
 exact de_var 2
set_option maxHeartbeats 0 in
theorem body_3 (C : Cn P w K mg base k f fd) (hr : Room k (A.deeper (envOfC "is_figured" (defScope (top 3)) s.heap.objs.size (f 3) cdv))) :
 DSs (cxOf CX0 P w K mg base N_3 "is_figured" (defScope (top 3)) (f 3) cdv A outer s H E).nox (defBody (top 3)) (b_3 (tab k)) := by
 have hu := hr.units
 unfold b_3
 refine dss_one ?_
 refine ds_ret ?_
 refine de_call C.o_2 hr C.q_2.m C.q_2.k C.q_2.d tab_len_2 ?_
 refine da_cons ?_ ?_
 exact de_var 0
 refine da_cons ?_ ?_
 refine de_un ud_neg ?_
 exact de_var 1
 refine da_cons ?_ ?_
 exact de_var 1
 exact da_nil
set_option maxHeartbeats 0 in
theorem body_4 (C : Cn P w K mg base k f fd) (hr : Room k (A.deeper (envOfC "is_tuple_of" (defScope (top 4)) s.heap.objs.size (f 4) cdv))) :
 DSs (cxOf CX0 P w K mg base N_4 "is_tuple_of" (defScope (top 4)) (f 4) cdv A outer s H E).nox (defBody (top 4)) (b_4 (tab k)) := by
 have hu := hr.units
 unfold b_4
 refine dss_one ?_
 refine ds_ret ?_
 refine de_and ?_ ?_
 refine de_isi .tuple C.z_isinstance C.z_tuple ?_
 exact de_var 0
 refine de_one ?_
 refine de_chain od_le od_le ?_ ?_ ?_
 exact de_var 1
 refine de_callB cd_len C.z_len PySem.boot_len ?_
 refine da_cons ?_ ?_
 exact de_var 0
 exact da_nil
 exact de_var 2
set_option maxHeartbeats 0 in
theorem body_5 (C : Cn P w K mg base k f fd) (hr : Room k (A.deeper (envOfC "word_of" (defScope (top 5)) s.heap.objs.size (f 5) cdv))) :
 DSs (cxOf CX0 P w K mg base N_5 "word_of" (defScope (top 5)) (f 5) cdv A outer s H E).nox (defBody (top 5)) (b_5 (tab k)) := by
 have hu := hr.units
 unfold b_5
 refine dss_cons ?_ ?_
 refine ds_if ?_ ?_ ?_
 refine DW.dt ?_
 refine dw_and ?_ ?_
 refine dt_tru ?_
 refine de_isi .tuple C.z_isinstance C.z_tuple ?_
 exact de_var 0
 refine dw_and ?_ ?_
 refine dt_cmp od_gt ?_ ?_
 refine de_callB cd_len C.z_len PySem.boot_len ?_
 refine da_cons ?_ ?_
 exact de_var 0
 exact da_nil
 exact de_int
 refine dw_and1 ?_
 refine dt_tru ?_
 refine de_isi .str C.z_isinstance C.z_str ?_
 refine de_ix ?_ ?_
 exact de_var 0
 exact de_int
 refine dss_one ?_
 refine ds_ret ?_
 refine de_ix ?_ ?_
 exact de_var 0
 exact de_int
 exact dss_nil
 refine dss_one ?_
 refine ds_ret ?_
 exact de_non
set_option maxHeartbeats 0 in
theorem body_8 (C : Cn P w K mg base k f fd) (hr : Room k (A.deeper (envOfC "number_of" (defScope (top 8)) s.heap.objs.size (f 8) cdv))) :
 DSs (cxOf CX0 P w K mg base N_8 "number_of" (defScope (top 8)) (f 8) cdv A outer s H E).nox (defBody (top 8)) (b_8 (tab k)) := by
 have hu := hr.units
 unfold b_8
 refine dss_one ?_
 refine ds_ret ?_
 refine de_ix ?_ ?_
 exact de_var 0
 refine de_op od_add ?_ ?_
 exact de_int
 refine de_didx C.t_NUMBERS.choose_spec.2 C.t_NUMBERS.choose_spec.1 ?_ ?_
 refine de_ix ?_ ?_
 exact de_var 0
 exact de_int
 exact de_var 1
set_option maxHeartbeats 0 in
theorem body_9 (C : Cn P w K mg base k f fd) (hr : Room k (A.deeper (envOfC "hands_of" (defScope (top 9)) s.heap.objs.size (f 9) cdv))) :
 DSs (cxOf CX0 P w K mg base N_9 "hands_of" (defScope (top 9)) (f 9) cdv A outer s H E).nox (defBody (top 9)) (b_9 (tab k)) := by
 have hu := hr.units
 unfold b_9
 refine dss_one ?_
 refine ds_ret ?_
 refine de_call C.o_8 hr C.q_8.m C.q_8.k C.q_8.d tab_len_8 ?_
 refine da_cons ?_ ?_
 exact de_var 0
 refine da_cons ?_ ?_
 exact de_str
 exact da_nil
set_option maxHeartbeats 0 in
theorem body_10 (C : Cn P w K mg base k f fd) (hr : Room k (A.deeper (envOfC "places_of" (defScope (top 10)) s.heap.objs.size (f 10) cdv))) :
 DSs (cxOf CX0 P w K mg base N_10 "places_of" (defScope (top 10)) (f 10) cdv A outer s H E).nox (defBody (top 10)) (b_10 (tab k)) := by
 have hu := hr.units
 unfold b_10
 refine dss_cons ?_ ?_
 refine ds_if ?_ ?_ ?_
 refine dt_cmp (od_eq hu) ?_ ?_
 refine de_ix ?_ ?_
 exact de_var 0
 exact de_int
 exact de_str
 refine dss_one ?_
 refine ds_ret ?_
 refine de_call C.o_8 hr C.q_8.m C.q_8.k C.q_8.d tab_len_8 ?_
 refine da_cons ?_ ?_
 exact de_var 0
 refine da_cons ?_ ?_
 exact de_str
 exact da_nil
 exact dss_nil
 refine dss_one ?_
 refine ds_ret ?_
 refine de_call C.o_9 hr C.q_9.m C.q_9.k C.q_9.d tab_len_9 ?_
 refine da_cons ?_ ?_
 exact de_var 0
 exact da_nil
set_option maxHeartbeats 0 in
theorem body_15 (C : Cn P w K mg base k f fd) (hr : Room k (A.deeper (envOfC "is_value" (defScope (top 15)) s.heap.objs.size (f 15) cdv))) :
 DSs (cxOf CX0 P w K mg base N_15 "is_value" (defScope (top 15)) (f 15) cdv A outer s H E).nox (defBody (top 15)) (b_15 (tab k)) := by
 have hu := hr.units
 unfold b_15
 refine dss_one ?_
 refine ds_ret ?_
 refine de_call C.o_16 hr C.q_16.m C.q_16.k C.q_16.d tab_len_16 ?_
 refine da_cons ?_ ?_
 exact de_var 0
 refine da_cons ?_ ?_
 exact de_glob (v := .int 3) rfl (C.c_MOST_DEEP).choose_spec ⟨_, rfl⟩ (fun _ _ _ => by simp [Rel])
 exact da_nil
set_option maxHeartbeats 0 in
theorem body_16 (C : Cn P w K mg base k f fd) (hr : Room k (A.deeper (envOfC "is_value_within" (defScope (top 16)) s.heap.objs.size (f 16) cdv))) :
 DSs (cxOf CX0 P w K mg base N_16 "is_value_within" (defScope (top 16)) (f 16) cdv A outer s H E).nox (defBody (top 16)) (b_16 (tab k)) := by
 have hu := hr.units
 unfold b_16
 refine dss_cons ?_ ?_
 refine ds_if ?_ ?_ ?_
 refine DW.dt ?_
 refine dw_or ?_ ?_
 refine dt_cmp (od_eq hu) ?_ ?_
 exact de_var 1
 exact de_int
 refine dw_or1 ?_
 refine dt_not ?_
 refine dt_tru ?_
 refine de_isi .tuple C.z_isinstance C.z_tuple ?_
 exact de_var 0
 refine dss_one ?_
 refine ds_ret ?_
 refine de_call C.o_3 hr C.q_3.m C.q_3.k C.q_3.d tab_len_3 ?_
 refine da_cons ?_ ?_
 exact de_var 0
 refine da_cons ?_ ?_
 exact de_glob (v := .int 999999999999) rfl (C.c_TWELVE_FIGURES).choose_spec ⟨_, rfl⟩ (fun _ _ _ => by simp [Rel])
 exact da_nil
 exact dss_nil
 refine dss_cons ?_ ?_
 refine ds_if ?_ ?_ ?_
 refine dt_not ?_
 refine dt_tru ?_
 refine de_call C.o_4 hr C.q_4.m C.q_4.k C.q_4.d tab_len_4 ?_
 refine da_cons ?_ ?_
 exact de_var 0
 refine da_cons ?_ ?_
 exact de_int
 refine da_cons ?_ ?_
 exact de_glob (v := .int 8) rfl (C.c_MOST_PARTS).choose_spec ⟨_, rfl⟩ (fun _ _ _ => by simp [Rel])
 exact da_nil
 refine dss_one ?_
 refine ds_ret ?_
 exact de_bl
 exact dss_nil
 refine dss_one ?_
 refine ds_ret ?_
 refine de_callB (cd_all rfl) C.z_all PyProof.Rows.boot_all ?_
 refine da_cons ?_ ?_
 refine de_comp rfl rfl (compOk_of (N := N_c0) (fr := [none, some 1]) (S := (defScope (top 16))) (XN := N_16) rfl rfl (by decide +kernel)) ?_ (fun _ _ _ _ _ => ⟨?_, ?_, ?_⟩)
 refine di_seq ?_
 exact de_var 0
 exact dg_name (i := 0) nd_c0 rfl (by first | exact Or.inl rfl | exact Or.inr rfl)
 exact difs_nil
 refine de_call C.o_16 hr C.q_16.m C.q_16.k C.q_16.d tab_len_16 ?_
 refine da_cons ?_ ?_
 exact de_var 0
 refine da_cons ?_ ?_
 refine de_op od_sub ?_ ?_
 exact de_var 1
 exact de_int
 exact da_nil
 exact da_nil
set_option maxHeartbeats 0 in
theorem body_18 (C : Cn P w K mg base k f fd) (hr : Room k (A.deeper (envOfC "is_deed" (defScope (top 18)) s.heap.objs.size (f 18) cdv))) :
 DSs (cxOf CX0 P w K mg base N_18 "is_deed" (defScope (top 18)) (f 18) cdv A outer s H E).nox (defBody (top 18)) (b_18 (tab k)) := by
 have hu := hr.units
 unfold b_18
 refine dss_cons ?_ ?_
 refine ds_set (i := 3) nd_18 rfl (by first | exact Or.inl rfl | exact Or.inr rfl) ?_
 refine de_call C.o_5 hr C.q_5.m C.q_5.k C.q_5.d tab_len_5 ?_
 refine da_cons ?_ ?_
 exact de_var 2
 exact da_nil
 refine dss_cons ?_ ?_
 refine ds_if ?_ ?_ ?_
 refine dt_cmp (od_eq hu) ?_ ?_
 exact de_var 3
 exact de_str
 refine dss_one ?_
 refine ds_ret ?_
 refine de_cmp (od_eq hu) ?_ ?_
 refine de_callB cd_len C.z_len PySem.boot_len ?_
 refine da_cons ?_ ?_
 exact de_var 2
 exact da_nil
 exact de_int
 exact dss_nil
 refine dss_cons ?_ ?_
 refine ds_if ?_ ?_ ?_
 refine DW.dt ?_
 refine dw_or ?_ ?_
 refine dt_cmp (od_neD hu) ?_ ?_
 exact de_var 3
 exact de_str
 refine dw_or1 ?_
 refine dt_cmp (od_neD hu) ?_ ?_
 refine de_callB cd_len C.z_len PySem.boot_len ?_
 refine da_cons ?_ ?_
 exact de_var 2
 exact da_nil
 exact de_int
 refine dss_one ?_
 refine ds_ret ?_
 exact de_bl
 exact dss_nil
 refine dss_one ?_
 refine ds_ret ?_
 refine de_and ?_ ?_
 refine de_call C.o_19 hr C.q_19.m C.q_19.k C.q_19.d tab_len_19 ?_
 refine da_cons ?_ ?_
 exact de_var 0
 refine da_cons ?_ ?_
 exact de_var 1
 refine da_cons ?_ ?_
 refine de_ix ?_ ?_
 exact de_var 2
 exact de_int
 exact da_nil
 refine de_one ?_
 refine de_call C.o_20 hr C.q_20.m C.q_20.k C.q_20.d tab_len_20 ?_
 refine da_cons ?_ ?_
 exact de_var 0
 refine da_cons ?_ ?_
 refine de_ix ?_ ?_
 exact de_var 2
 exact de_int
 exact da_nil
set_option maxHeartbeats 0 in
theorem body_19 (C : Cn P w K mg base k f fd) (hr : Room k (A.deeper (envOfC "may_put_at" (defScope (top 19)) s.heap.objs.size (f 19) cdv))) :
 DSs (cxOf CX0 P w K mg base N_19 "may_put_at" (defScope (top 19)) (f 19) cdv A outer s H E).nox (defBody (top 19)) (b_19 (tab k)) := by
 have hu := hr.units
 unfold b_19
 refine dss_cons ?_ ?_
 refine ds_if ?_ ?_ ?_
 refine dt_not ?_
 refine dt_tru ?_
 refine de_call C.o_2 hr C.q_2.m C.q_2.k C.q_2.d tab_len_2 ?_
 refine da_cons ?_ ?_
 exact de_var 2
 refine da_cons ?_ ?_
 exact de_int
 refine da_cons ?_ ?_
 refine de_op od_sub ?_ ?_
 refine de_call C.o_10 hr C.q_10.m C.q_10.k C.q_10.d tab_len_10 ?_
 refine da_cons ?_ ?_
 exact de_var 0
 exact da_nil
 exact de_int
 exact da_nil
 refine dss_one ?_
 refine ds_ret ?_
 exact de_bl
 exact dss_nil
 refine dss_one ?_
 refine ds_ret ?_
 refine de_or ?_ ?_
 refine de_cmp (od_eq hu) ?_ ?_
 refine de_ix ?_ ?_
 exact de_var 0
 exact de_int
 exact de_str
 refine de_one ?_
 refine de_cmp (od_eq hu) ?_ ?_
 exact de_var 2
 exact de_var 1
set_option maxHeartbeats 0 in
theorem body_20 (C : Cn P w K mg base k f fd) (hr : Room k (A.deeper (envOfC "may_put" (defScope (top 20)) s.heap.objs.size (f 20) cdv))) :
 DSs (cxOf CX0 P w K mg base N_20 "may_put" (defScope (top 20)) (f 20) cdv A outer s H E).nox (defBody (top 20)) (b_20 (tab k)) := by
 have hu := hr.units
 unfold b_20
 refine dss_cons ?_ ?_
 refine ds_if ?_ ?_ ?_
 refine dt_cmp (od_eq hu) ?_ ?_
 refine de_ix ?_ ?_
 exact de_var 0
 exact de_int
 exact de_str
 refine dss_one ?_
 refine ds_ret ?_
 refine de_and ?_ ?_
 refine de_call C.o_1 hr C.q_1.m C.q_1.k C.q_1.d tab_len_1 ?_
 refine da_cons ?_ ?_
 exact de_var 1
 exact da_nil
 refine de_one ?_
 refine de_cmp (od_eq hu) ?_ ?_
 exact de_var 1
 exact de_int
 exact dss_nil
 refine dss_one ?_
 refine ds_ret ?_
 refine de_call C.o_15 hr C.q_15.m C.q_15.k C.q_15.d tab_len_15 ?_
 refine da_cons ?_ ?_
 exact de_var 1
 exact da_nil
set_option maxHeartbeats 0 in
theorem body_27 (C : Cn P w K mg base k f fd) (hr : Room k (A.deeper (envOfC "is_jobs" (defScope (top 27)) s.heap.objs.size (f 27) cdv))) :
 DSs (cxOf CX0 P w K mg base N_27 "is_jobs" (defScope (top 27)) (f 27) cdv A outer s H E).nox (defBody (top 27)) (b_27 (tab k)) := by
 have hu := hr.units
 unfold b_27
 refine dss_cons ?_ ?_
 refine ds_set (i := 2) nd_27 rfl (by first | exact Or.inl rfl | exact Or.inr rfl) ?_
 refine de_call C.o_9 hr C.q_9.m C.q_9.k C.q_9.d tab_len_9 ?_
 refine da_cons ?_ ?_
 exact de_var 0
 exact da_nil
 refine dss_cons ?_ ?_
 refine ds_if ?_ ?_ ?_
 refine dt_not ?_
 refine dt_tru ?_
 refine de_call C.o_4 hr C.q_4.m C.q_4.k C.q_4.d tab_len_4 ?_
 refine da_cons ?_ ?_
 exact de_var 1
 refine da_cons ?_ ?_
 exact de_var 2
 refine da_cons ?_ ?_
 exact de_var 2
 exact da_nil
 refine dss_one ?_
 refine ds_ret ?_
 exact de_bl
 exact dss_nil
 refine dss_cons ?_ ?_
 refine ds_if ?_ ?_ ?_
 refine dt_not ?_
 refine dt_tru ?_
 refine de_callB (cd_all rfl) C.z_all PyProof.Rows.boot_all ?_
 refine da_cons ?_ ?_
 refine de_comp rfl rfl (compOk_of (N := N_c1) (fr := [none, none, some 0]) (S := (defScope (top 27))) (XN := N_27) rfl rfl (by decide +kernel)) ?_ (fun _ _ _ _ _ => ⟨?_, ?_, ?_⟩)
 refine di_enum rfl C.z_enumerate ?_
 exact de_var 1
 refine dg_tup rfl ?_
 refine dgs_cons ?_ ?_
 exact dg_name (i := 0) nd_c1 rfl (by first | exact Or.inl rfl | exact Or.inr rfl)
 refine dgs_cons ?_ ?_
 exact dg_name (i := 1) nd_c1 rfl (by first | exact Or.inl rfl | exact Or.inr rfl)
 exact dgs_nil
 exact difs_nil
 refine de_call C.o_28 hr C.q_28.m C.q_28.k C.q_28.d tab_len_28 ?_
 refine da_cons ?_ ?_
 exact de_var 2
 refine da_cons ?_ ?_
 exact de_var 0
 refine da_cons ?_ ?_
 exact de_var 1
 exact da_nil
 exact da_nil
 refine dss_one ?_
 refine ds_ret ?_
 exact de_bl
 exact dss_nil
 refine dss_one ?_
 refine ds_ret ?_
 refine de_call C.o_31 hr C.q_31.m C.q_31.k C.q_31.d tab_len_31 ?_
 refine da_cons ?_ ?_
 exact de_var 1
 exact da_nil
set_option maxHeartbeats 0 in
theorem body_28 (C : Cn P w K mg base k f fd) (hr : Room k (A.deeper (envOfC "is_job" (defScope (top 28)) s.heap.objs.size (f 28) cdv))) :
 DSs (cxOf CX0 P w K mg base N_28 "is_job" (defScope (top 28)) (f 28) cdv A outer s H E).nox (defBody (top 28)) (b_28 (tab k)) := by
 have hu := hr.units
 unfold b_28
 refine dss_cons ?_ ?_
 refine ds_set (i := 3) nd_28 rfl (by first | exact Or.inl rfl | exact Or.inr rfl) ?_
 refine de_call C.o_5 hr C.q_5.m C.q_5.k C.q_5.d tab_len_5 ?_
 refine da_cons ?_ ?_
 exact de_var 2
 exact da_nil
 refine dss_cons ?_ ?_
 refine ds_if ?_ ?_ ?_
 refine DW.dt ?_
 refine dw_or ?_ ?_
 refine dt_dnotinN C.t_LENGTHS.choose_spec.2 C.t_LENGTHS.choose_spec.1 ?_
 exact de_var 3
 refine dw_or1 ?_
 refine dt_cmp (od_neD hu) ?_ ?_
 refine de_callB cd_len C.z_len PySem.boot_len ?_
 refine da_cons ?_ ?_
 exact de_var 2
 exact da_nil
 refine de_dget C.t_LENGTHS.choose_spec.2 C.t_LENGTHS.choose_spec.1 ?_
 exact de_var 3
 refine dss_one ?_
 refine ds_ret ?_
 exact de_bl
 exact dss_nil
 refine dss_cons ?_ ?_
 refine ds_if ?_ ?_ ?_
 refine dt_cmp (od_eq hu) ?_ ?_
 exact de_var 3
 exact de_str
 refine dss_one ?_
 refine ds_ret ?_
 refine de_call C.o_29 hr C.q_29.m C.q_29.k C.q_29.d tab_len_29 ?_
 refine da_cons ?_ ?_
 exact de_var 0
 refine da_cons ?_ ?_
 exact de_var 1
 refine da_cons ?_ ?_
 refine de_ix ?_ ?_
 exact de_var 2
 exact de_int
 exact da_nil
 exact dss_nil
 refine dss_cons ?_ ?_
 refine ds_if ?_ ?_ ?_
 refine dt_cmp od_in ?_ ?_
 refine de_ix ?_ ?_
 exact de_var 0
 exact de_int
 refine de_tup ?_
 refine da_cons ?_ ?_
 exact de_str
 refine da_cons ?_ ?_
 exact de_str
 exact da_nil
 refine dss_one ?_
 refine ds_ret ?_
 exact de_bl
 exact dss_nil
 refine dss_cons ?_ ?_
 refine ds_if ?_ ?_ ?_
 refine dt_cmp (od_eq hu) ?_ ?_
 exact de_var 3
 exact de_str
 refine dss_one ?_
 refine ds_ret ?_
 refine de_call C.o_30 hr C.q_30.m C.q_30.k C.q_30.d tab_len_30 ?_
 refine da_cons ?_ ?_
 refine de_ix ?_ ?_
 exact de_var 2
 exact de_int
 exact da_nil
 exact dss_nil
 refine dss_cons ?_ ?_
 refine ds_if ?_ ?_ ?_
 refine dt_not ?_
 refine dt_tru ?_
 refine de_call C.o_3 hr C.q_3.m C.q_3.k C.q_3.d tab_len_3 ?_
 refine da_cons ?_ ?_
 refine de_ix ?_ ?_
 exact de_var 2
 exact de_int
 refine da_cons ?_ ?_
 exact de_glob (v := .int 999999999) rfl (C.c_NINE_FIGURES).choose_spec ⟨_, rfl⟩ (fun _ _ _ => by simp [Rel])
 exact da_nil
 refine dss_one ?_
 refine ds_ret ?_
 exact de_bl
 exact dss_nil
 refine dss_cons ?_ ?_
 refine ds_if ?_ ?_ ?_
 refine dt_cmp (od_eq hu) ?_ ?_
 exact de_var 3
 exact de_str
 refine dss_one ?_
 refine ds_ret ?_
 refine de_call C.o_2 hr C.q_2.m C.q_2.k C.q_2.d tab_len_2 ?_
 refine da_cons ?_ ?_
 refine de_ix ?_ ?_
 exact de_var 2
 exact de_int
 refine da_cons ?_ ?_
 exact de_int
 refine da_cons ?_ ?_
 refine de_call C.o_9 hr C.q_9.m C.q_9.k C.q_9.d tab_len_9 ?_
 refine da_cons ?_ ?_
 exact de_var 0
 exact da_nil
 exact da_nil
 exact dss_nil
 refine dss_one ?_
 refine ds_ret ?_
 refine de_or ?_ ?_
 refine de_cmp (od_eq hu) ?_ ?_
 exact de_var 3
 exact de_str
 refine de_one ?_
 refine de_call C.o_2 hr C.q_2.m C.q_2.k C.q_2.d tab_len_2 ?_
 refine da_cons ?_ ?_
 refine de_ix ?_ ?_
 exact de_var 2
 exact de_int
 refine da_cons ?_ ?_
 exact de_int
 refine da_cons ?_ ?_
 exact de_glob (v := .int 6) rfl (C.c_MOST_ROUNDS).choose_spec ⟨_, rfl⟩ (fun _ _ _ => by simp [Rel])
 exact da_nil
set_option maxHeartbeats 0 in
theorem body_29 (C : Cn P w K mg base k f fd) (hr : Room k (A.deeper (envOfC "is_row_of_deeds" (defScope (top 29)) s.heap.objs.size (f 29) cdv))) :
 DSs (cxOf CX0 P w K mg base N_29 "is_row_of_deeds" (defScope (top 29)) (f 29) cdv A outer s H E).nox (defBody (top 29)) (b_29 (tab k)) := by
 have hu := hr.units
 unfold b_29
 refine dss_cons ?_ ?_
 refine ds_if ?_ ?_ ?_
 refine dt_not ?_
 refine dt_tru ?_
 refine de_call C.o_4 hr C.q_4.m C.q_4.k C.q_4.d tab_len_4 ?_
 refine da_cons ?_ ?_
 exact de_var 2
 refine da_cons ?_ ?_
 exact de_int
 refine da_cons ?_ ?_
 exact de_glob (v := .int 12) rfl (C.c_MOST_DEEDS).choose_spec ⟨_, rfl⟩ (fun _ _ _ => by simp [Rel])
 exact da_nil
 refine dss_one ?_
 refine ds_ret ?_
 exact de_bl
 exact dss_nil
 refine dss_one ?_
 refine ds_ret ?_
 refine de_callB (cd_all rfl) C.z_all PyProof.Rows.boot_all ?_
 refine da_cons ?_ ?_
 refine de_comp rfl rfl (compOk_of (N := N_c2) (fr := [none, some 0, some 1]) (S := (defScope (top 29))) (XN := N_29) rfl rfl (by decide +kernel)) ?_ (fun _ _ _ _ _ => ⟨?_, ?_, ?_⟩)
 refine di_seq ?_
 exact de_var 2
 exact dg_name (i := 0) nd_c2 rfl (by first | exact Or.inl rfl | exact Or.inr rfl)
 exact difs_nil
 refine de_call C.o_18 hr C.q_18.m C.q_18.k C.q_18.d tab_len_18 ?_
 refine da_cons ?_ ?_
 exact de_var 1
 refine da_cons ?_ ?_
 exact de_var 2
 refine da_cons ?_ ?_
 exact de_var 0
 exact da_nil
 exact da_nil
set_option maxHeartbeats 0 in
theorem body_30 (C : Cn P w K mg base k f fd) (hr : Room k (A.deeper (envOfC "are_items" (defScope (top 30)) s.heap.objs.size (f 30) cdv))) :
 DSs (cxOf CX0 P w K mg base N_30 "are_items" (defScope (top 30)) (f 30) cdv A outer s H E).nox (defBody (top 30)) (b_30 (tab k)) := by
 have hu := hr.units
 unfold b_30
 refine dss_cons ?_ ?_
 refine ds_if ?_ ?_ ?_
 refine dt_not ?_
 refine dt_tru ?_
 refine de_call C.o_4 hr C.q_4.m C.q_4.k C.q_4.d tab_len_4 ?_
 refine da_cons ?_ ?_
 exact de_var 0
 refine da_cons ?_ ?_
 exact de_int
 refine da_cons ?_ ?_
 exact de_glob (v := .int 8) rfl (C.c_MOST_ITEMS).choose_spec ⟨_, rfl⟩ (fun _ _ _ => by simp [Rel])
 exact da_nil
 refine dss_one ?_
 refine ds_ret ?_
 exact de_bl
 exact dss_nil
 refine dss_one ?_
 refine ds_ret ?_
 refine de_callB (cd_all rfl) C.z_all PyProof.Rows.boot_all ?_
 refine da_cons ?_ ?_
 refine de_comp rfl rfl (compOk_of (N := N_c3) (fr := [none]) (S := (defScope (top 30))) (XN := N_30) rfl rfl (by decide +kernel)) ?_ (fun _ _ _ _ _ => ⟨?_, ?_, ?_⟩)
 refine di_seq ?_
 exact de_var 0
 exact dg_name (i := 0) nd_c3 rfl (by first | exact Or.inl rfl | exact Or.inr rfl)
 exact difs_nil
 refine de_or ?_ ?_
 refine de_cmp od_is ?_ ?_
 exact de_var 0
 exact de_non
 refine de_one ?_
 refine de_call C.o_3 hr C.q_3.m C.q_3.k C.q_3.d tab_len_3 ?_
 refine da_cons ?_ ?_
 exact de_var 0
 refine da_cons ?_ ?_
 exact de_glob (v := .int 999999999) rfl (C.c_NINE_FIGURES).choose_spec ⟨_, rfl⟩ (fun _ _ _ => by simp [Rel])
 exact da_nil
 exact da_nil
set_option maxHeartbeats 0 in
theorem body_31 (C : Cn P w K mg base k f fd) (hr : Room k (A.deeper (envOfC "go_together" (defScope (top 31)) s.heap.objs.size (f 31) cdv))) :
 DSs (cxOf CX0 P w K mg base N_31 "go_together" (defScope (top 31)) (f 31) cdv A outer s H E).nox (defBody (top 31)) (b_31 (tab k)) := by
 have hu := hr.units
 unfold b_31
 refine dss_cons ?_ ?_
 refine ds_for PassesOwn.never rfl ?_ ?_ ?_
 refine di_enum rfl C.z_enumerate ?_
 exact de_var 0
 refine dg_tup rfl ?_
 refine dgs_cons ?_ ?_
 exact dg_name (i := 1) nd_31 rfl (by first | exact Or.inl rfl | exact Or.inr rfl)
 refine dgs_cons ?_ ?_
 exact dg_name (i := 2) nd_31 rfl (by first | exact Or.inl rfl | exact Or.inr rfl)
 exact dgs_nil
 refine dss_one ?_
 refine ds_if ?_ ?_ ?_
 refine dt_not ?_
 refine dt_tru ?_
 refine de_callB (cd_all rfl) C.z_all PyProof.Rows.boot_all ?_
 refine da_cons ?_ ?_
 refine de_comp rfl rfl (compOk_of (N := N_c4) (fr := [none, some 2]) (S := (defScope (top 31))) (XN := N_31) rfl rfl (by decide +kernel)) ?_ (fun _ _ _ _ _ => ⟨?_, ?_, ?_⟩)
 refine di_seq ?_
 refine de_sliceW ?_ ?_ ?_
 exact de_var 0
 exact do_none
 refine do_some ?_
 exact de_var 1
 exact dg_name (i := 0) nd_c4 rfl (by first | exact Or.inl rfl | exact Or.inr rfl)
 exact difs_nil
 refine de_call C.o_32 hr C.q_32.m C.q_32.k C.q_32.d tab_len_32 ?_
 refine da_cons ?_ ?_
 exact de_var 1
 refine da_cons ?_ ?_
 exact de_var 0
 exact da_nil
 exact da_nil
 refine dss_one ?_
 refine ds_ret ?_
 exact de_bl
 exact dss_nil
 refine dss_one ?_
 refine ds_ret ?_
 exact de_bl
set_option maxHeartbeats 0 in
theorem body_32 (C : Cn P w K mg base k f fd) (hr : Room k (A.deeper (envOfC "are_fellows" (defScope (top 32)) s.heap.objs.size (f 32) cdv))) :
 DSs (cxOf CX0 P w K mg base N_32 "are_fellows" (defScope (top 32)) (f 32) cdv A outer s H E).nox (defBody (top 32)) (b_32 (tab k)) := by
 have hu := hr.units
 unfold b_32
 refine dss_cons ?_ ?_
 refine ds_if ?_ ?_ ?_
 refine dt_cmp (od_neD hu) ?_ ?_
 refine de_ix ?_ ?_
 exact de_var 0
 exact de_int
 refine de_ix ?_ ?_
 exact de_var 1
 exact de_int
 refine dss_one ?_
 refine ds_ret ?_
 exact de_bl
 exact dss_nil
 refine dss_cons ?_ ?_
 refine ds_if ?_ ?_ ?_
 refine dt_cmp (od_eq hu) ?_ ?_
 refine de_ix ?_ ?_
 exact de_var 0
 exact de_int
 exact de_str
 refine dss_one ?_
 refine ds_ret ?_
 refine de_cmp (od_neD hu) ?_ ?_
 refine de_ix ?_ ?_
 exact de_var 0
 exact de_int
 refine de_ix ?_ ?_
 exact de_var 1
 exact de_int
 exact dss_nil
 refine dss_one ?_
 refine ds_ret ?_
 refine de_cmp (od_eq hu) ?_ ?_
 refine de_sliceW ?_ ?_ ?_
 exact de_var 0
 refine do_some ?_
 exact de_int
 exact do_none
 refine de_sliceW ?_ ?_ ?_
 exact de_var 1
 refine do_some ?_
 exact de_int
 exact do_none
set_option maxHeartbeats 0 in
theorem body_34 (C : Cn P w K mg base k f fd) (hr : Room k (A.deeper (envOfC "_law_hand" (defScope (top 34)) s.heap.objs.size (f 34) cdv))) :
 DSs (cxOf CX0 P w K mg base N_34 "_law_hand" (defScope (top 34)) (f 34) cdv A outer s H E).nox (defBody (top 34)) (b_34 (tab k)) := by
 have hu := hr.units
 unfold b_34
 refine dss_cons ?_ ?_
 refine ds_set (i := 2) nd_34 rfl (by first | exact Or.inl rfl | exact Or.inr rfl) ?_
 exact de_int
 refine dss_cons ?_ ?_
 refine ds_if ?_ ?_ ?_
 refine dt_cmp od_lt ?_ ?_
 exact de_var 1
 refine de_callB cd_len C.z_len PySem.boot_len ?_
 refine da_cons ?_ ?_
 exact de_var 0
 exact da_nil
 refine dss_one ?_
 refine ds_set (i := 2) nd_34 rfl (by first | exact Or.inl rfl | exact Or.inr rfl) ?_
 refine de_ix ?_ ?_
 exact de_var 0
 exact de_var 1
 exact dss_nil
 refine dss_one ?_
 refine ds_ret ?_
 refine de_ref ?_
 refine da_cons ?_ ?_
 refine de_op od_mul ?_ ?_
 exact de_var 2
 refine de_callTy cd_int C.z_int PyProof.Rows.boot_int ?_
 refine da_cons ?_ ?_
 refine de_cmp od_ge ?_ ?_
 exact de_var 2
 refine de_op od_pow ?_ ?_
 exact de_int
 exact de_int
 exact da_nil
 refine da_cons ?_ ?_
 refine de_op od_add ?_ ?_
 refine de_op od_add ?_ ?_
 refine de_op od_mod ?_ ?_
 exact de_var 2
 exact de_int
 refine de_op od_mul ?_ ?_
 exact de_int
 exact de_var 1
 exact de_int
 refine da_cons ?_ ?_
 exact de_int
 exact da_nil
set_option maxHeartbeats 0 in
theorem body_35 (C : Cn P w K mg base k f fd) (hr : Room k (A.deeper (envOfC "_law_take" (defScope (top 35)) s.heap.objs.size (f 35) cdv))) :
 DSs (cxOf CX0 P w K mg base N_35 "_law_take" (defScope (top 35)) (f 35) cdv A outer s H E).nox (defBody (top 35)) (b_35 (tab k)) := by
 have hu := hr.units
 unfold b_35
 refine dss_cons ?_ ?_
 refine ds_if ?_ ?_ ?_
 refine dt_cmp od_gt ?_ ?_
 refine de_ix ?_ ?_
 exact de_var 0
 exact de_int
 exact de_int
 refine dss_cons ?_ ?_
 refine ds_set (i := 2) nd_35 rfl (by first | exact Or.inl rfl | exact Or.inr rfl) ?_
 refine de_op od_mod ?_ ?_
 refine de_ix ?_ ?_
 exact de_var 0
 exact de_int
 exact de_var 1
 refine dss_cons ?_ ?_
 refine ds_asg ?_ ?_
 refine de_op od_fdiv ?_ ?_
 refine de_ix ?_ ?_
 exact de_var 0
 exact de_int
 exact de_var 1
 refine dg_sub ?_ ?_
 exact de_var 0
 exact de_int
 refine dss_one ?_
 refine ds_ret ?_
 exact de_var 2
 exact dss_nil
 refine dss_cons ?_ ?_
 refine ds_asg ?_ ?_
 refine de_op od_add ?_ ?_
 refine de_ix ?_ ?_
 exact de_var 0
 exact de_int
 exact de_int
 refine dg_sub ?_ ?_
 exact de_var 0
 exact de_int
 refine dss_cons ?_ ?_
 refine ds_set (i := 3) nd_35 rfl (by first | exact Or.inl rfl | exact Or.inr rfl) ?_
 refine de_ix ?_ ?_
 exact de_var 0
 exact de_int
 refine dss_cons ?_ ?_
 refine ds_set (i := 4) nd_35 rfl (by first | exact Or.inl rfl | exact Or.inr rfl) ?_
 refine de_op od_mod ?_ ?_
 refine de_op od_mul ?_ ?_
 refine de_ix ?_ ?_
 exact de_var 0
 exact de_int
 refine de_op od_add ?_ ?_
 refine de_op od_add ?_ ?_
 exact de_int
 refine de_op od_mul ?_ ?_
 refine de_op od_mul ?_ ?_
 exact de_int
 exact de_var 3
 exact de_var 3
 refine de_op od_mul ?_ ?_
 exact de_int
 exact de_var 3
 exact de_int
 refine dss_cons ?_ ?_
 refine ds_set (i := 5) nd_35 rfl (by first | exact Or.inl rfl | exact Or.inr rfl) ?_
 refine de_op od_add ?_ ?_
 refine de_op od_add ?_ ?_
 refine de_op od_mod ?_ ?_
 exact de_var 4
 exact de_int
 refine de_op od_mul ?_ ?_
 exact de_var 3
 exact de_int
 exact de_int
 refine dss_cons ?_ ?_
 refine ds_set (i := 4) nd_35 rfl (by first | exact Or.inl rfl | exact Or.inr rfl) ?_
 refine de_op od_mod ?_ ?_
 refine de_op od_mul ?_ ?_
 exact de_var 4
 exact de_var 5
 exact de_int
 refine dss_one ?_
 refine ds_ret ?_
 refine de_op od_mod ?_ ?_
 refine de_op od_add ?_ ?_
 refine de_op od_fdiv ?_ ?_
 exact de_var 4
 exact de_int
 refine de_op od_fdiv ?_ ?_
 exact de_var 4
 exact de_int
 exact de_var 1
set_option maxHeartbeats 0 in
theorem body_36 (C : Cn P w K mg base k f fd) (hr : Room k (A.deeper (envOfC "_law_pick" (defScope (top 36)) s.heap.objs.size (f 36) cdv))) :
 DSs (cxOf CX0 P w K mg base N_36 "_law_pick" (defScope (top 36)) (f 36) cdv A outer s H E).nox (defBody (top 36)) (b_36 (tab k)) := by
 have hu := hr.units
 unfold b_36
 refine dss_one ?_
 refine ds_ret ?_
 refine de_ix ?_ ?_
 exact de_var 1
 refine de_call C.o_35 hr C.q_35.m C.q_35.k C.q_35.d tab_len_35 ?_
 refine da_cons ?_ ?_
 exact de_var 0
 refine da_cons ?_ ?_
 refine de_callB cd_len C.z_len PySem.boot_len ?_
 refine da_cons ?_ ?_
 exact de_var 1
 exact da_nil
 exact da_nil
set_option maxHeartbeats 0 in
theorem body_37 (C : Cn P w K mg base k f fd) (hr : Room k (A.deeper (envOfC "_law_manner" (defScope (top 37)) s.heap.objs.size (f 37) cdv))) :
 DSs (cxOf CX0 P w K mg base N_37 "_law_manner" (defScope (top 37)) (f 37) cdv A outer s H E).nox (defBody (top 37)) (b_37 (tab k)) := by
 have hu := hr.units
 unfold b_37
 refine dss_cons ?_ ?_
 refine ds_set (i := 2) nd_37 rfl (by first | exact Or.inl rfl | exact Or.inr rfl) ?_
 refine de_call C.o_35 hr C.q_35.m C.q_35.k C.q_35.d tab_len_35 ?_
 refine da_cons ?_ ?_
 exact de_var 0
 refine da_cons ?_ ?_
 exact de_int
 exact da_nil
 refine dss_cons ?_ ?_
 refine ds_set (i := 3) nd_37 rfl (by first | exact Or.inl rfl | exact Or.inr rfl) ?_
 refine de_call C.o_36 hr C.q_36.m C.q_36.k C.q_36.d tab_len_36 ?_
 refine da_cons ?_ ?_
 exact de_var 0
 refine da_cons ?_ ?_
 refine de_lst ?_
 refine da_cons ?_ ?_
 exact de_int
 refine da_cons ?_ ?_
 exact de_int
 refine da_cons ?_ ?_
 exact de_int
 refine da_cons ?_ ?_
 exact de_int
 refine da_cons ?_ ?_
 exact de_int
 refine da_cons ?_ ?_
 exact de_int
 exact da_nil
 exact da_nil
 refine dss_cons ?_ ?_
 refine ds_set (i := 4) nd_37 rfl (by first | exact Or.inl rfl | exact Or.inr rfl) ?_
 refine de_op od_add ?_ ?_
 exact de_int
 refine de_call C.o_35 hr C.q_35.m C.q_35.k C.q_35.d tab_len_35 ?_
 refine da_cons ?_ ?_
 exact de_var 0
 refine da_cons ?_ ?_
 exact de_int
 exact da_nil
 refine dss_cons ?_ ?_
 refine ds_set (i := 5) nd_37 rfl (by first | exact Or.inl rfl | exact Or.inr rfl) ?_
 refine de_tup ?_
 refine da_cons ?_ ?_
 refine de_call C.o_35 hr C.q_35.m C.q_35.k C.q_35.d tab_len_35 ?_
 refine da_cons ?_ ?_
 exact de_var 0
 refine da_cons ?_ ?_
 exact de_int
 exact da_nil
 refine da_cons ?_ ?_
 refine de_call C.o_35 hr C.q_35.m C.q_35.k C.q_35.d tab_len_35 ?_
 refine da_cons ?_ ?_
 exact de_var 0
 refine da_cons ?_ ?_
 exact de_int
 exact da_nil
 exact da_nil
 refine dss_cons ?_ ?_
 refine ds_if ?_ ?_ ?_
 refine dt_cmp od_lt ?_ ?_
 exact de_var 2
 exact de_int
 refine dss_one ?_
 refine ds_ret ?_
 refine de_ix ?_ ?_
 refine de_lst ?_
 refine da_cons ?_ ?_
 refine de_tup ?_
 refine da_cons ?_ ?_
 exact de_str
 refine da_cons ?_ ?_
 exact de_var 1
 exact da_nil
 refine da_cons ?_ ?_
 refine de_tup ?_
 refine da_cons ?_ ?_
 exact de_str
 refine da_cons ?_ ?_
 exact de_var 1
 refine da_cons ?_ ?_
 exact de_var 3
 exact da_nil
 exact da_nil
 exact de_var 2
 exact dss_nil
 refine dss_cons ?_ ?_
 refine ds_if ?_ ?_ ?_
 refine dt_cmp (od_eq hu) ?_ ?_
 exact de_var 2
 exact de_int
 refine dss_one ?_
 refine ds_ret ?_
 refine de_tup ?_
 refine da_cons ?_ ?_
 exact de_str
 refine da_cons ?_ ?_
 exact de_var 1
 refine da_cons ?_ ?_
 exact de_var 3
 refine da_cons ?_ ?_
 exact de_var 4
 exact da_nil
 exact dss_nil
 refine dss_cons ?_ ?_
 refine ds_if ?_ ?_ ?_
 refine dt_cmp (od_eq hu) ?_ ?_
 exact de_var 2
 exact de_int
 refine dss_one ?_
 refine ds_ret ?_
 refine de_op od_add ?_ ?_
 refine de_op od_add ?_ ?_
 refine de_tup ?_
 refine da_cons ?_ ?_
 exact de_str
 refine da_cons ?_ ?_
 exact de_var 1
 exact da_nil
 exact de_var 5
 refine de_tup ?_
 refine da_cons ?_ ?_
 exact de_var 4
 exact da_nil
 exact dss_nil
 refine dss_one ?_
 refine ds_ret ?_
 refine de_op od_add ?_ ?_
 refine de_op od_add ?_ ?_
 refine de_tup ?_
 refine da_cons ?_ ?_
 exact de_str
 refine da_cons ?_ ?_
 exact de_var 1
 refine da_cons ?_ ?_
 refine de_op od_add ?_ ?_
 exact de_int
 refine de_call C.o_35 hr C.q_35.m C.q_35.k C.q_35.d tab_len_35 ?_
 refine da_cons ?_ ?_
 exact de_var 0
 refine da_cons ?_ ?_
 exact de_int
 exact da_nil
 exact da_nil
 exact de_var 5
 refine de_tup ?_
 refine da_cons ?_ ?_
 exact de_var 4
 exact da_nil
set_option maxHeartbeats 0 in
theorem body_38 (C : Cn P w K mg base k f fd) (hr : Room k (A.deeper (envOfC "_law_table" (defScope (top 38)) s.heap.objs.size (f 38) cdv))) :
 DSs (cxOf CX0 P w K mg base N_38 "_law_table" (defScope (top 38)) (f 38) cdv A outer s H E).nox (defBody (top 38)) (b_38 (tab k)) := by
 have hu := hr.units
 unfold b_38
 refine dss_cons ?_ ?_
 refine ds_set (i := 4) nd_38 rfl (by first | exact Or.inl rfl | exact Or.inr rfl) ?_
 refine de_ix ?_ ?_
 refine de_lst ?_
 refine da_cons ?_ ?_
 exact de_int
 refine da_cons ?_ ?_
 exact de_int
 refine da_cons ?_ ?_
 exact de_int
 refine da_cons ?_ ?_
 exact de_int
 refine da_cons ?_ ?_
 exact de_int
 refine da_cons ?_ ?_
 exact de_int
 refine da_cons ?_ ?_
 exact de_int
 refine da_cons ?_ ?_
 exact de_int
 exact da_nil
 refine de_call C.o_35 hr C.q_35.m C.q_35.k C.q_35.d tab_len_35 ?_
 refine da_cons ?_ ?_
 exact de_var 0
 refine da_cons ?_ ?_
 exact de_int
 exact da_nil
 refine dss_cons ?_ ?_
 refine ds_set (i := 5) nd_38 rfl (by first | exact Or.inl rfl | exact Or.inr rfl) ?_
 refine de_ref ?_
 exact da_nil
 refine dss_cons ?_ ?_
 refine ds_for PassesOwn.never rfl ?_ ?_ ?_
 refine di_r1 rfl C.z_range ?_
 refine da_cons ?_ ?_
 exact de_var 4
 exact da_nil
 exact dg_name (i := 6) nd_38 rfl (by first | exact Or.inl rfl | exact Or.inr rfl)
 refine dss_cons ?_ ?_
 refine ds_par (i := 7) (j := 8) rfl nd_38 rfl rfl (by decide) rfl rfl ?_ (by rfl)
 refine da_cons ?_ ?_
 refine de_call C.o_35 hr C.q_35.m C.q_35.k C.q_35.d tab_len_35 ?_
 refine da_cons ?_ ?_
 exact de_var 0
 refine da_cons ?_ ?_
 exact de_var 1
 exact da_nil
 refine da_cons ?_ ?_
 refine de_call C.o_35 hr C.q_35.m C.q_35.k C.q_35.d tab_len_35 ?_
 refine da_cons ?_ ?_
 exact de_var 0
 refine da_cons ?_ ?_
 exact de_var 4
 exact da_nil
 exact da_nil
 refine dss_one ?_
 refine ds_if ?_ ?_ ?_
 refine DW.dt ?_
 refine dw_and ?_ ?_
 refine dt_cmp od_gt ?_ ?_
 exact de_var 6
 exact de_int
 refine dw_and1 ?_
 refine dt_cmp (od_eq hu) ?_ ?_
 refine de_call C.o_35 hr C.q_35.m C.q_35.k C.q_35.d tab_len_35 ?_
 refine da_cons ?_ ?_
 exact de_var 0
 refine da_cons ?_ ?_
 exact de_int
 exact da_nil
 exact de_int
 refine dss_one ?_
 refine ds_expr ?_
 refine de_append ?_ ?_
 exact de_var 5
 refine de_ix ?_ ?_
 refine de_lst ?_
 refine da_cons ?_ ?_
 refine de_tup ?_
 refine da_cons ?_ ?_
 exact de_str
 exact da_nil
 refine da_cons ?_ ?_
 refine de_tup ?_
 refine da_cons ?_ ?_
 exact de_str
 refine da_cons ?_ ?_
 refine de_callTy cd_tup C.z_tuple PyProof.Rows.boot_tuple ?_
 refine da_cons ?_ ?_
 refine de_comp rfl rfl (compOk_of (N := N_c5) (fr := [none, some 0]) (S := (defScope (top 38))) (XN := N_38) rfl rfl (by decide +kernel)) ?_ (fun _ _ _ _ _ => ⟨?_, ?_, ?_⟩)
 refine di_r1 rfl C.z_range ?_
 refine da_cons ?_ ?_
 exact de_var 2
 exact da_nil
 exact dg_name (i := 0) nd_c5 rfl (by first | exact Or.inl rfl | exact Or.inr rfl)
 exact difs_nil
 refine de_call C.o_35 hr C.q_35.m C.q_35.k C.q_35.d tab_len_35 ?_
 refine da_cons ?_ ?_
 exact de_var 1
 refine da_cons ?_ ?_
 exact de_int
 exact da_nil
 exact da_nil
 exact da_nil
 exact da_nil
 refine de_callTy cd_int C.z_int PyProof.Rows.boot_int ?_
 refine da_cons ?_ ?_
 exact de_var 3
 exact da_nil
 refine dss_one ?_
 refine ds_if ?_ ?_ ?_
 refine dt_cmp (od_eq hu) ?_ ?_
 refine de_call C.o_35 hr C.q_35.m C.q_35.k C.q_35.d tab_len_35 ?_
 refine da_cons ?_ ?_
 exact de_var 0
 refine da_cons ?_ ?_
 exact de_int
 exact da_nil
 exact de_int
 refine dss_cons ?_ ?_
 refine ds_set (i := 9) nd_38 rfl (by first | exact Or.inl rfl | exact Or.inr rfl) ?_
 refine de_sset hr.hd C.z_sorted C.z_set ?_
 refine de_comp rfl rfl (compOk_of (N := N_c6) (fr := [none, some 0]) (S := (defScope (top 38))) (XN := N_38) rfl rfl (by decide +kernel)) ?_ (fun _ _ _ _ _ => ⟨?_, ?_, ?_⟩)
 refine di_r1 rfl C.z_range ?_
 refine da_cons ?_ ?_
 refine de_call C.o_35 hr C.q_35.m C.q_35.k C.q_35.d tab_len_35 ?_
 refine da_cons ?_ ?_
 exact de_var 0
 refine da_cons ?_ ?_
 exact de_int
 exact da_nil
 exact da_nil
 exact dg_name (i := 0) nd_c6 rfl (by first | exact Or.inl rfl | exact Or.inr rfl)
 exact difs_nil
 refine de_call C.o_35 hr C.q_35.m C.q_35.k C.q_35.d tab_len_35 ?_
 refine da_cons ?_ ?_
 exact de_var 1
 refine da_cons ?_ ?_
 exact de_int
 exact da_nil
 refine dss_one ?_
 refine ds_expr ?_
 refine de_append ?_ ?_
 exact de_var 5
 refine de_tup ?_
 refine da_cons ?_ ?_
 exact de_str
 refine da_cons ?_ ?_
 exact de_var 7
 refine da_cons ?_ ?_
 refine de_callTy cd_tup C.z_tuple PyProof.Rows.boot_tuple ?_
 refine da_cons ?_ ?_
 refine de_comp rfl rfl (compOk_of (N := N_c7) (fr := [none, some 0, some 4]) (S := (defScope (top 38))) (XN := N_38) rfl rfl (by decide +kernel)) ?_ (fun _ _ _ _ _ => ⟨?_, ?_, ?_⟩)
 refine di_seq ?_
 exact de_var 9
 exact dg_name (i := 0) nd_c7 rfl (by first | exact Or.inl rfl | exact Or.inr rfl)
 exact difs_nil
 refine de_tup ?_
 refine da_cons ?_ ?_
 exact de_var 0
 refine da_cons ?_ ?_
 refine de_call C.o_35 hr C.q_35.m C.q_35.k C.q_35.d tab_len_35 ?_
 refine da_cons ?_ ?_
 exact de_var 1
 refine da_cons ?_ ?_
 exact de_var 2
 exact da_nil
 exact da_nil
 exact da_nil
 refine da_cons ?_ ?_
 exact de_var 8
 exact da_nil
 refine dss_one ?_
 refine ds_expr ?_
 refine de_append ?_ ?_
 exact de_var 5
 refine de_tup ?_
 refine da_cons ?_ ?_
 exact de_str
 refine da_cons ?_ ?_
 exact de_var 7
 refine da_cons ?_ ?_
 refine de_call C.o_35 hr C.q_35.m C.q_35.k C.q_35.d tab_len_35 ?_
 refine da_cons ?_ ?_
 exact de_var 0
 refine da_cons ?_ ?_
 exact de_int
 exact da_nil
 refine da_cons ?_ ?_
 exact de_var 8
 exact da_nil
 refine dss_one ?_
 refine ds_ret ?_
 refine de_callTy cd_tup C.z_tuple PyProof.Rows.boot_tuple ?_
 refine da_cons ?_ ?_
 exact de_var 5
 exact da_nil
set_option maxHeartbeats 0 in
theorem body_39 (C : Cn P w K mg base k f fd) (hr : Room k (A.deeper (envOfC "_law_tables" (defScope (top 39)) s.heap.objs.size (f 39) cdv))) :
 DSs (cxOf CX0 P w K mg base N_39 "_law_tables" (defScope (top 39)) (f 39) cdv A outer s H E).nox (defBody (top 39)) (b_39 (tab k)) := by
 have hu := hr.units
 unfold b_39
 refine dss_cons ?_ ?_
 refine ds_set (i := 2) nd_39 rfl (by first | exact Or.inl rfl | exact Or.inr rfl) ?_
 refine de_op od_add ?_ ?_
 exact de_int
 refine de_call C.o_35 hr C.q_35.m C.q_35.k C.q_35.d tab_len_35 ?_
 refine da_cons ?_ ?_
 exact de_var 0
 refine da_cons ?_ ?_
 exact de_int
 exact da_nil
 refine dss_cons ?_ ?_
 refine ds_set (i := 3) nd_39 rfl (by first | exact Or.inl rfl | exact Or.inr rfl) ?_
 refine de_callTy cd_tup C.z_tuple PyProof.Rows.boot_tuple ?_
 refine da_cons ?_ ?_
 refine de_comp rfl rfl (compOk_of (N := N_c8) (fr := [none, some 0, some 2, some 1]) (S := (defScope (top 39))) (XN := N_39) rfl rfl (by decide +kernel)) ?_ (fun _ _ _ _ _ => ⟨?_, ?_, ?_⟩)
 refine di_r1 rfl C.z_range ?_
 refine da_cons ?_ ?_
 exact de_var 1
 exact da_nil
 exact dg_name (i := 0) nd_c8 rfl (by first | exact Or.inl rfl | exact Or.inr rfl)
 exact difs_nil
 refine de_call C.o_38 hr C.q_38.m C.q_38.k C.q_38.d tab_len_38 ?_
 refine da_cons ?_ ?_
 exact de_var 1
 refine da_cons ?_ ?_
 exact de_var 2
 refine da_cons ?_ ?_
 exact de_var 3
 refine da_cons ?_ ?_
 exact de_bl
 exact da_nil
 exact da_nil
 refine dss_one ?_
 refine ds_ret ?_
 refine de_tup ?_
 refine da_cons ?_ ?_
 exact de_str
 refine da_cons ?_ ?_
 exact de_var 1
 refine da_cons ?_ ?_
 exact de_var 2
 refine da_cons ?_ ?_
 exact de_var 3
 refine da_cons ?_ ?_
 refine de_callTy cd_tup C.z_tuple PyProof.Rows.boot_tuple ?_
 refine da_cons ?_ ?_
 refine de_comp rfl rfl (compOk_of (N := N_c9) (fr := [none, some 0, some 2, some 1]) (S := (defScope (top 39))) (XN := N_39) rfl rfl (by decide +kernel)) ?_ (fun _ _ _ _ _ => ⟨?_, ?_, ?_⟩)
 refine di_r1 rfl C.z_range ?_
 refine da_cons ?_ ?_
 exact de_var 1
 exact da_nil
 exact dg_name (i := 0) nd_c9 rfl (by first | exact Or.inl rfl | exact Or.inr rfl)
 exact difs_nil
 refine de_call C.o_38 hr C.q_38.m C.q_38.k C.q_38.d tab_len_38 ?_
 refine da_cons ?_ ?_
 exact de_var 1
 refine da_cons ?_ ?_
 exact de_var 2
 refine da_cons ?_ ?_
 exact de_var 3
 refine da_cons ?_ ?_
 exact de_bl
 exact da_nil
 exact da_nil
 exact da_nil
set_option maxHeartbeats 0 in
theorem body_40 (C : Cn P w K mg base k f fd) (hr : Room k (A.deeper (envOfC "_law_plain_value" (defScope (top 40)) s.heap.objs.size (f 40) cdv))) :
 DSs (cxOf CX0 P w K mg base N_40 "_law_plain_value" (defScope (top 40)) (f 40) cdv A outer s H E).nox (defBody (top 40)) (b_40 (tab k)) := by
 have hu := hr.units
 unfold b_40
 refine dss_cons ?_ ?_
 refine ds_set (i := 1) nd_40 rfl (by first | exact Or.inl rfl | exact Or.inr rfl) ?_
 refine de_call C.o_35 hr C.q_35.m C.q_35.k C.q_35.d tab_len_35 ?_
 refine da_cons ?_ ?_
 exact de_var 0
 refine da_cons ?_ ?_
 exact de_int
 exact da_nil
 refine dss_cons ?_ ?_
 refine ds_if ?_ ?_ ?_
 refine dt_cmp (od_eq hu) ?_ ?_
 exact de_var 1
 exact de_int
 refine dss_one ?_
 refine ds_ret ?_
 refine de_tup ?_
 refine da_cons ?_ ?_
 refine de_call C.o_35 hr C.q_35.m C.q_35.k C.q_35.d tab_len_35 ?_
 refine da_cons ?_ ?_
 exact de_var 0
 refine da_cons ?_ ?_
 exact de_int
 exact da_nil
 refine da_cons ?_ ?_
 refine de_tup ?_
 refine da_cons ?_ ?_
 refine de_op od_sub ?_ ?_
 refine de_call C.o_35 hr C.q_35.m C.q_35.k C.q_35.d tab_len_35 ?_
 refine da_cons ?_ ?_
 exact de_var 0
 refine da_cons ?_ ?_
 exact de_int
 exact da_nil
 exact de_int
 refine da_cons ?_ ?_
 refine de_tup ?_
 exact da_nil
 exact da_nil
 exact da_nil
 exact dss_nil
 refine dss_cons ?_ ?_
 refine ds_if ?_ ?_ ?_
 refine dt_cmp (od_eq hu) ?_ ?_
 exact de_var 1
 exact de_int
 refine dss_one ?_
 refine ds_ret ?_
 refine de_call C.o_36 hr C.q_36.m C.q_36.k C.q_36.d tab_len_36 ?_
 refine da_cons ?_ ?_
 exact de_var 0
 refine da_cons ?_ ?_
 refine de_lst ?_
 refine da_cons ?_ ?_
 refine de_un ud_neg ?_
 exact de_int
 refine da_cons ?_ ?_
 refine de_op od_sub ?_ ?_
 refine de_op od_pow ?_ ?_
 exact de_int
 exact de_int
 exact de_int
 refine da_cons ?_ ?_
 refine de_op od_sub ?_ ?_
 exact de_int
 refine de_op od_pow ?_ ?_
 exact de_int
 exact de_int
 refine da_cons ?_ ?_
 refine de_tup ?_
 exact da_nil
 refine da_cons ?_ ?_
 refine de_tup ?_
 refine da_cons ?_ ?_
 exact de_int
 exact da_nil
 exact da_nil
 exact da_nil
 exact dss_nil
 refine dss_one ?_
 refine ds_ret ?_
 refine de_call C.o_35 hr C.q_35.m C.q_35.k C.q_35.d tab_len_35 ?_
 refine da_cons ?_ ?_
 exact de_var 0
 refine da_cons ?_ ?_
 exact de_int
 exact da_nil
set_option maxHeartbeats 0 in
theorem body_41 (C : Cn P w K mg base k f fd) (hr : Room k (A.deeper (envOfC "_law_deeds" (defScope (top 41)) s.heap.objs.size (f 41) cdv))) :
 DSs (cxOf CX0 P w K mg base N_41 "_law_deeds" (defScope (top 41)) (f 41) cdv A outer s H E).nox (defBody (top 41)) (b_41 (tab k)) := by
 have hu := hr.units
 unfold b_41
 refine dss_cons ?_ ?_
 refine ds_set (i := 4) nd_41 rfl (by first | exact Or.inl rfl | exact Or.inr rfl) ?_
 refine de_ref ?_
 exact da_nil
 refine dss_cons ?_ ?_
 refine ds_for PassesOwn.never rfl ?_ ?_ ?_
 refine di_r1 rfl C.z_range ?_
 refine da_cons ?_ ?_
 exact de_var 3
 exact da_nil
 exact dg_name (i := 5) nd_41 rfl (by first | exact Or.inl rfl | exact Or.inr rfl)
 refine dss_one ?_
 refine ds_if ?_ ?_ ?_
 refine dt_cmp od_lt ?_ ?_
 refine de_call C.o_35 hr C.q_35.m C.q_35.k C.q_35.d tab_len_35 ?_
 refine da_cons ?_ ?_
 exact de_var 0
 refine da_cons ?_ ?_
 exact de_int
 exact da_nil
 exact de_int
 refine dss_cons ?_ ?_
 refine ds_set (i := 6) nd_41 rfl (by first | exact Or.inl rfl | exact Or.inr rfl) ?_
 exact de_var 2
 refine dss_cons ?_ ?_
 refine ds_if ?_ ?_ ?_
 refine dt_cmp (od_eq hu) ?_ ?_
 refine de_ix ?_ ?_
 exact de_var 1
 exact de_int
 exact de_str
 refine dss_one ?_
 refine ds_set (i := 6) nd_41 rfl (by first | exact Or.inl rfl | exact Or.inr rfl) ?_
 refine de_call C.o_35 hr C.q_35.m C.q_35.k C.q_35.d tab_len_35 ?_
 refine da_cons ?_ ?_
 exact de_var 0
 refine da_cons ?_ ?_
 refine de_ix ?_ ?_
 exact de_var 1
 exact de_int
 exact da_nil
 exact dss_nil
 refine dss_one ?_
 refine ds_expr ?_
 refine de_append ?_ ?_
 exact de_var 4
 refine de_tup ?_
 refine da_cons ?_ ?_
 exact de_str
 refine da_cons ?_ ?_
 exact de_var 6
 refine da_cons ?_ ?_
 refine de_call C.o_40 hr C.q_40.m C.q_40.k C.q_40.d tab_len_40 ?_
 refine da_cons ?_ ?_
 exact de_var 0
 exact da_nil
 exact da_nil
 refine dss_one ?_
 refine ds_expr ?_
 refine de_append ?_ ?_
 exact de_var 4
 refine de_tup ?_
 refine da_cons ?_ ?_
 exact de_str
 exact da_nil
 refine dss_one ?_
 refine ds_ret ?_
 refine de_tup ?_
 refine da_cons ?_ ?_
 exact de_str
 refine da_cons ?_ ?_
 refine de_callTy cd_tup C.z_tuple PyProof.Rows.boot_tuple ?_
 refine da_cons ?_ ?_
 exact de_var 4
 exact da_nil
 exact da_nil
set_option maxHeartbeats 0 in
theorem body_42 (C : Cn P w K mg base k f fd) (hr : Room k (A.deeper (envOfC "_law_built" (defScope (top 42)) s.heap.objs.size (f 42) cdv))) :
 DSs (cxOf CX0 P w K mg base N_42 "_law_built" (defScope (top 42)) (f 42) cdv A outer s H E).nox (defBody (top 42)) (b_42 (tab k)) := by
 have hu := hr.units
 unfold b_42
 refine dss_cons ?_ ?_
 refine ds_set (i := 2) nd_42 rfl (by first | exact Or.inl rfl | exact Or.inr rfl) ?_
 refine de_call C.o_35 hr C.q_35.m C.q_35.k C.q_35.d tab_len_35 ?_
 refine da_cons ?_ ?_
 exact de_var 0
 refine da_cons ?_ ?_
 exact de_int
 exact da_nil
 refine dss_cons ?_ ?_
 refine ds_par (i := 3) (j := 4) rfl nd_42 rfl rfl (by decide) rfl rfl ?_ (by rfl)
 refine da_cons ?_ ?_
 refine de_op od_add ?_ ?_
 exact de_int
 refine de_call C.o_35 hr C.q_35.m C.q_35.k C.q_35.d tab_len_35 ?_
 refine da_cons ?_ ?_
 exact de_var 0
 refine da_cons ?_ ?_
 exact de_var 1
 exact da_nil
 refine da_cons ?_ ?_
 refine de_op od_add ?_ ?_
 exact de_int
 refine de_call C.o_35 hr C.q_35.m C.q_35.k C.q_35.d tab_len_35 ?_
 refine da_cons ?_ ?_
 exact de_var 0
 refine da_cons ?_ ?_
 exact de_int
 exact da_nil
 exact da_nil
 refine dss_cons ?_ ?_
 refine ds_set (i := 5) nd_42 rfl (by first | exact Or.inl rfl | exact Or.inr rfl) ?_
 refine de_ref ?_
 exact da_nil
 refine dss_cons ?_ ?_
 refine ds_for PassesOwn.never rfl ?_ ?_ ?_
 refine di_r1 rfl C.z_range ?_
 refine da_cons ?_ ?_
 exact de_var 1
 exact da_nil
 exact dg_name (i := 6) nd_42 rfl (by first | exact Or.inl rfl | exact Or.inr rfl)
 refine dss_cons ?_ ?_
 refine ds_set (i := 7) nd_42 rfl (by first | exact Or.inl rfl | exact Or.inr rfl) ?_
 refine de_call C.o_36 hr C.q_36.m C.q_36.k C.q_36.d tab_len_36 ?_
 refine da_cons ?_ ?_
 exact de_var 0
 refine da_cons ?_ ?_
 refine de_lst ?_
 refine da_cons ?_ ?_
 refine de_op od_sub ?_ ?_
 refine de_call C.o_35 hr C.q_35.m C.q_35.k C.q_35.d tab_len_35 ?_
 refine da_cons ?_ ?_
 exact de_var 0
 refine da_cons ?_ ?_
 exact de_int
 exact da_nil
 exact de_int
 refine da_cons ?_ ?_
 refine de_op od_sub ?_ ?_
 refine de_call C.o_35 hr C.q_35.m C.q_35.k C.q_35.d tab_len_35 ?_
 refine da_cons ?_ ?_
 exact de_var 0
 refine da_cons ?_ ?_
 exact de_int
 exact da_nil
 exact de_int
 refine da_cons ?_ ?_
 refine de_op od_sub ?_ ?_
 refine de_op od_pow ?_ ?_
 exact de_int
 exact de_int
 exact de_int
 refine da_cons ?_ ?_
 refine de_op od_sub ?_ ?_
 exact de_int
 refine de_op od_pow ?_ ?_
 exact de_int
 exact de_int
 exact da_nil
 exact da_nil
 refine dss_cons ?_ ?_
 refine ds_setcomp rfl rfl (compOk_of (N := N_c10) (fr := [none, some 0]) (S := (defScope (top 42))) (XN := N_42) rfl rfl (by decide +kernel)) ?_ (fun _ _ _ _ _ => ⟨?_, ?_, ?_⟩) nd_42 (i := 8) rfl (by first | exact Or.inl rfl | exact Or.inr rfl)
 refine di_r1 rfl C.z_range ?_
 refine da_cons ?_ ?_
 refine de_call C.o_35 hr C.q_35.m C.q_35.k C.q_35.d tab_len_35 ?_
 refine da_cons ?_ ?_
 exact de_var 0
 refine da_cons ?_ ?_
 exact de_int
 exact da_nil
 exact da_nil
 exact dg_name (i := 0) nd_c10 rfl (by first | exact Or.inl rfl | exact Or.inr rfl)
 exact difs_nil
 refine de_call C.o_36 hr C.q_36.m C.q_36.k C.q_36.d tab_len_36 ?_
 refine da_cons ?_ ?_
 exact de_var 1
 refine da_cons ?_ ?_
 refine de_lst ?_
 refine da_cons ?_ ?_
 exact de_non
 refine da_cons ?_ ?_
 exact de_non
 refine da_cons ?_ ?_
 exact de_int
 refine da_cons ?_ ?_
 exact de_int
 refine da_cons ?_ ?_
 refine de_un ud_neg ?_
 exact de_int
 refine da_cons ?_ ?_
 exact de_int
 refine da_cons ?_ ?_
 refine de_op od_sub ?_ ?_
 refine de_op od_pow ?_ ?_
 exact de_int
 exact de_int
 exact de_int
 exact da_nil
 exact da_nil
 refine dss_cons ?_ ?_
 refine ds_set (i := 9) nd_42 rfl (by first | exact Or.inl rfl | exact Or.inr rfl) ?_
 refine de_op od_sub ?_ ?_
 refine de_op od_add ?_ ?_
 refine de_op od_mul ?_ ?_
 exact de_int
 exact de_var 6
 refine de_call C.o_35 hr C.q_35.m C.q_35.k C.q_35.d tab_len_35 ?_
 refine da_cons ?_ ?_
 exact de_var 0
 refine da_cons ?_ ?_
 exact de_int
 exact da_nil
 exact de_int
 refine dss_one ?_
 refine ds_expr ?_
 refine de_append ?_ ?_
 exact de_var 5
 refine de_ix ?_ ?_
 refine de_lst ?_
 refine da_cons ?_ ?_
 refine de_tup ?_
 refine da_cons ?_ ?_
 exact de_str
 refine da_cons ?_ ?_
 refine de_callTy cd_tup C.z_tuple PyProof.Rows.boot_tuple ?_
 refine da_cons ?_ ?_
 exact de_var 8
 exact da_nil
 exact da_nil
 refine da_cons ?_ ?_
 refine de_tup ?_
 refine da_cons ?_ ?_
 exact de_str
 refine da_cons ?_ ?_
 exact de_var 9
 exact da_nil
 refine da_cons ?_ ?_
 refine de_tup ?_
 refine da_cons ?_ ?_
 exact de_str
 refine da_cons ?_ ?_
 exact de_var 7
 refine da_cons ?_ ?_
 exact de_var 3
 exact da_nil
 refine da_cons ?_ ?_
 refine de_tup ?_
 refine da_cons ?_ ?_
 exact de_str
 refine da_cons ?_ ?_
 exact de_var 7
 refine da_cons ?_ ?_
 exact de_var 4
 exact da_nil
 exact da_nil
 exact de_var 2
 refine dss_one ?_
 refine ds_ret ?_
 refine de_callTy cd_tup C.z_tuple PyProof.Rows.boot_tuple ?_
 refine da_cons ?_ ?_
 exact de_var 5
 exact da_nil
set_option maxHeartbeats 0 in
theorem body_43 (C : Cn P w K mg base k f fd) (hr : Room k (A.deeper (envOfC "_law_odd_jobs" (defScope (top 43)) s.heap.objs.size (f 43) cdv))) :
 DSs (cxOf CX0 P w K mg base N_43 "_law_odd_jobs" (defScope (top 43)) (f 43) cdv A outer s H E).nox (defBody (top 43)) (b_43 (tab k)) := by
 have hu := hr.units
 unfold b_43
 refine dss_cons ?_ ?_
 refine ds_set (i := 3) nd_43 rfl (by first | exact Or.inl rfl | exact Or.inr rfl) ?_
 refine de_getL (ks := ["least", "closer"]) ?_ ?_ ?_ (by decide +kernel) (by simp) (by decide)
 refine dpr_cons ?_ ?_
 refine de_op od_add ?_ ?_
 refine de_ix ?_ ?_
 exact de_var 0
 exact de_int
 exact de_int
 refine dpr_cons ?_ ?_
 exact de_int
 exact dpr_nil
 refine de_ix ?_ ?_
 exact de_var 2
 exact de_int
 exact de_int
 refine dss_cons ?_ ?_
 refine ds_set (i := 4) nd_43 rfl (by first | exact Or.inl rfl | exact Or.inr rfl) ?_
 refine de_ref ?_
 refine da_cons ?_ ?_
 exact de_non
 refine da_cons ?_ ?_
 refine de_tup ?_
 exact da_nil
 refine da_cons ?_ ?_
 refine de_lst ?_
 exact da_nil
 refine da_cons ?_ ?_
 refine de_sliceW ?_ ?_ ?_
 exact de_var 2
 exact do_none
 refine do_some ?_
 exact de_int
 refine da_cons ?_ ?_
 refine de_op od_add ?_ ?_
 exact de_var 2
 refine de_tup ?_
 refine da_cons ?_ ?_
 exact de_int
 exact da_nil
 refine da_cons ?_ ?_
 refine de_callTy cd_lst C.z_list PyProof.Rows.boot_list ?_
 refine da_cons ?_ ?_
 exact de_var 2
 exact da_nil
 refine da_cons ?_ ?_
 refine de_op od_add ?_ ?_
 refine de_tup ?_
 refine da_cons ?_ ?_
 refine de_op od_add ?_ ?_
 refine de_ix ?_ ?_
 exact de_var 2
 exact de_int
 exact de_str
 exact da_nil
 refine de_sliceW ?_ ?_ ?_
 exact de_var 2
 refine do_some ?_
 exact de_int
 exact do_none
 refine da_cons ?_ ?_
 refine de_op od_add ?_ ?_
 refine de_tup ?_
 refine da_cons ?_ ?_
 exact de_non
 exact da_nil
 refine de_sliceW ?_ ?_ ?_
 exact de_var 2
 refine do_some ?_
 exact de_int
 exact do_none
 exact da_nil
 refine dss_cons ?_ ?_
 refine ds_expr ?_
 refine de_append ?_ ?_
 exact de_var 4
 refine de_op od_add ?_ ?_
 refine de_tup ?_
 refine da_cons ?_ ?_
 refine de_tup ?_
 refine da_cons ?_ ?_
 exact de_str
 exact da_nil
 exact da_nil
 refine de_sliceW ?_ ?_ ?_
 exact de_var 2
 refine do_some ?_
 exact de_int
 exact do_none
 refine dss_cons ?_ ?_
 refine ds_if ?_ ?_ ?_
 refine dt_cmp (od_eq hu) ?_ ?_
 refine de_ix ?_ ?_
 exact de_var 2
 exact de_int
 exact de_str
 refine dss_cons ?_ ?_
 refine ds_set (i := 5) nd_43 rfl (by first | exact Or.inl rfl | exact Or.inr rfl) ?_
 refine de_ref ?_
 refine da_cons ?_ ?_
 refine de_tup ?_
 refine da_cons ?_ ?_
 exact de_str
 refine da_cons ?_ ?_
 refine de_op od_add ?_ ?_
 exact de_var 1
 exact de_int
 refine da_cons ?_ ?_
 exact de_int
 exact da_nil
 refine da_cons ?_ ?_
 refine de_tup ?_
 refine da_cons ?_ ?_
 exact de_str
 refine da_cons ?_ ?_
 exact de_var 1
 refine da_cons ?_ ?_
 exact de_non
 exact da_nil
 refine da_cons ?_ ?_
 refine de_tup ?_
 refine da_cons ?_ ?_
 exact de_str
 refine da_cons ?_ ?_
 exact de_int
 exact da_nil
 refine da_cons ?_ ?_
 exact de_non
 refine da_cons ?_ ?_
 refine de_tup ?_
 refine da_cons ?_ ?_
 exact de_str
 refine da_cons ?_ ?_
 exact de_var 1
 refine da_cons ?_ ?_
 refine de_op od_pow ?_ ?_
 exact de_int
 exact de_int
 exact da_nil
 refine da_cons ?_ ?_
 refine de_lst ?_
 refine da_cons ?_ ?_
 exact de_str
 exact da_nil
 exact da_nil
 refine dss_cons ?_ ?_
 refine ds_if ?_ ?_ ?_
 refine dt_cmp (od_eq hu) ?_ ?_
 refine de_ix ?_ ?_
 exact de_var 0
 exact de_int
 exact de_str
 refine dss_one ?_
 refine ds_asg ?_ ?_
 refine de_tup ?_
 refine da_cons ?_ ?_
 exact de_str
 refine da_cons ?_ ?_
 exact de_int
 refine da_cons ?_ ?_
 exact de_int
 exact da_nil
 refine dg_sub ?_ ?_
 exact de_var 5
 exact de_int
 exact dss_nil
 refine dss_cons ?_ ?_
 refine ds_set (i := 4) nd_43 rfl (by first | exact Or.inl rfl | exact Or.inr rfl) ?_
 refine de_op od_addR ?_ ?_
 exact de_var 4
 refine de_compR rfl rfl (compOk_of (N := N_c11) (fr := [none, some 2]) (S := (defScope (top 43))) (XN := N_43) rfl rfl (by decide +kernel)) ?_ (fun _ _ _ _ _ => ⟨?_, ?_, ?_⟩)
 refine dir_ref ?_
 exact de_var 5
 exact dg_name (i := 0) nd_c11 rfl (by first | exact Or.inl rfl | exact Or.inr rfl)
 exact difs_nil
 refine de_tup ?_
 refine da_cons ?_ ?_
 exact de_str
 refine da_cons ?_ ?_
 refine de_op od_add ?_ ?_
 refine de_sliceW ?_ ?_ ?_
 refine de_ix ?_ ?_
 exact de_var 1
 exact de_int
 exact do_none
 refine do_some ?_
 exact de_int
 refine de_tup ?_
 refine da_cons ?_ ?_
 exact de_var 0
 exact da_nil
 exact da_nil
 refine dss_one ?_
 refine ds_set (i := 4) nd_43 rfl (by first | exact Or.inl rfl | exact Or.inr rfl) ?_
 refine de_op od_addR ?_ ?_
 exact de_var 4
 refine de_lst ?_
 refine da_cons ?_ ?_
 refine de_tup ?_
 refine da_cons ?_ ?_
 exact de_str
 refine da_cons ?_ ?_
 refine de_op od_mul ?_ ?_
 refine de_tup ?_
 refine da_cons ?_ ?_
 refine de_tup ?_
 refine da_cons ?_ ?_
 exact de_str
 exact da_nil
 exact da_nil
 exact de_int
 exact da_nil
 refine da_cons ?_ ?_
 refine de_tup ?_
 refine da_cons ?_ ?_
 exact de_str
 refine da_cons ?_ ?_
 refine de_callTy cd_lst C.z_list PyProof.Rows.boot_list ?_
 refine da_cons ?_ ?_
 refine de_ix ?_ ?_
 exact de_var 2
 exact de_int
 exact da_nil
 exact da_nil
 exact da_nil
 refine dss_one ?_
 refine ds_if ?_ ?_ ?_
 refine dt_cmp (od_eq hu) ?_ ?_
 refine de_ix ?_ ?_
 exact de_var 2
 exact de_int
 exact de_str
 refine dss_cons ?_ ?_
 refine ds_set (i := 4) nd_43 rfl (by first | exact Or.inl rfl | exact Or.inr rfl) ?_
 refine de_op od_addR ?_ ?_
 refine de_op od_add ?_ ?_
 exact de_var 4
 refine de_comp rfl rfl (compOk_of (N := N_c12) (fr := [none]) (S := (defScope (top 43))) (XN := N_43) rfl rfl (by decide +kernel)) ?_ (fun _ _ _ _ _ => ⟨?_, ?_, ?_⟩)
 refine di_seq ?_
 refine de_lst ?_
 refine da_cons ?_ ?_
 refine de_op od_pow ?_ ?_
 exact de_int
 exact de_int
 refine da_cons ?_ ?_
 refine de_un ud_neg ?_
 refine de_op od_pow ?_ ?_
 exact de_int
 exact de_int
 refine da_cons ?_ ?_
 exact de_bl
 refine da_cons ?_ ?_
 exact de_str
 refine da_cons ?_ ?_
 refine de_tup ?_
 refine da_cons ?_ ?_
 exact de_int
 exact da_nil
 refine da_cons ?_ ?_
 refine de_lst ?_
 refine da_cons ?_ ?_
 exact de_int
 exact da_nil
 exact da_nil
 exact dg_name (i := 0) nd_c12 rfl (by first | exact Or.inl rfl | exact Or.inr rfl)
 exact difs_nil
 refine de_tup ?_
 refine da_cons ?_ ?_
 exact de_str
 refine da_cons ?_ ?_
 refine de_tup ?_
 refine da_cons ?_ ?_
 exact de_var 0
 exact da_nil
 exact da_nil
 refine de_lst ?_
 refine da_cons ?_ ?_
 refine de_tup ?_
 refine da_cons ?_ ?_
 exact de_str
 refine da_cons ?_ ?_
 refine de_op od_mul ?_ ?_
 refine de_tup ?_
 refine da_cons ?_ ?_
 exact de_int
 exact da_nil
 exact de_int
 exact da_nil
 exact da_nil
 refine dss_one ?_
 refine ds_set (i := 4) nd_43 rfl (by first | exact Or.inl rfl | exact Or.inr rfl) ?_
 refine de_op od_addR ?_ ?_
 exact de_var 4
 refine de_lst ?_
 refine da_cons ?_ ?_
 refine de_tup ?_
 refine da_cons ?_ ?_
 exact de_str
 refine da_cons ?_ ?_
 exact de_non
 exact da_nil
 refine da_cons ?_ ?_
 refine de_tup ?_
 refine da_cons ?_ ?_
 exact de_str
 refine da_cons ?_ ?_
 refine de_callTy cd_lst C.z_list PyProof.Rows.boot_list ?_
 refine da_cons ?_ ?_
 refine de_ix ?_ ?_
 exact de_var 2
 exact de_int
 exact da_nil
 exact da_nil
 refine da_cons ?_ ?_
 refine de_tup ?_
 refine da_cons ?_ ?_
 exact de_str
 refine da_cons ?_ ?_
 exact de_int
 exact da_nil
 exact da_nil
 refine dss_one ?_
 refine ds_set (i := 4) nd_43 rfl (by first | exact Or.inl rfl | exact Or.inr rfl) ?_
 refine de_op od_addR ?_ ?_
 exact de_var 4
 refine de_comp rfl rfl (compOk_of (N := N_c13) (fr := [none, some 2]) (S := (defScope (top 43))) (XN := N_43) rfl rfl (by decide +kernel)) ?_ (fun _ _ _ _ _ => ⟨?_, ?_, ?_⟩)
 refine di_seq ?_
 refine de_lst ?_
 refine da_cons ?_ ?_
 refine de_op od_pow ?_ ?_
 exact de_int
 exact de_int
 refine da_cons ?_ ?_
 refine de_un ud_neg ?_
 refine de_op od_pow ?_ ?_
 exact de_int
 exact de_int
 refine da_cons ?_ ?_
 exact de_bl
 refine da_cons ?_ ?_
 exact de_non
 refine da_cons ?_ ?_
 exact de_str
 refine da_cons ?_ ?_
 refine de_tup ?_
 refine da_cons ?_ ?_
 exact de_int
 exact da_nil
 refine da_cons ?_ ?_
 refine de_lst ?_
 refine da_cons ?_ ?_
 exact de_int
 exact da_nil
 exact da_nil
 exact dg_name (i := 0) nd_c13 rfl (by first | exact Or.inl rfl | exact Or.inr rfl)
 exact difs_nil
 refine de_op od_add ?_ ?_
 refine de_op od_add ?_ ?_
 refine de_sliceW ?_ ?_ ?_
 exact de_var 1
 exact do_none
 refine do_some ?_
 exact de_int
 refine de_tup ?_
 refine da_cons ?_ ?_
 exact de_var 0
 exact da_nil
 refine de_sliceW ?_ ?_ ?_
 exact de_var 1
 refine do_some ?_
 exact de_int
 exact do_none
 refine dss_cons ?_ ?_
 refine ds_if ?_ ?_ ?_
 refine dt_cmp od_gt ?_ ?_
 exact de_var 3
 exact de_int
 refine dss_one ?_
 refine ds_set (i := 4) nd_43 rfl (by first | exact Or.inl rfl | exact Or.inr rfl) ?_
 refine de_op od_addR ?_ ?_
 exact de_var 4
 refine de_comp rfl rfl (compOk_of (N := N_c14) (fr := [none, some 2]) (S := (defScope (top 43))) (XN := N_43) rfl rfl (by decide +kernel)) ?_ (fun _ _ _ _ _ => ⟨?_, ?_, ?_⟩)
 refine di_seq ?_
 refine de_lst ?_
 refine da_cons ?_ ?_
 exact de_int
 refine da_cons ?_ ?_
 exact de_var 3
 refine da_cons ?_ ?_
 refine de_un ud_neg ?_
 exact de_int
 refine da_cons ?_ ?_
 exact de_bl
 refine da_cons ?_ ?_
 exact de_non
 refine da_cons ?_ ?_
 exact de_str
 refine da_cons ?_ ?_
 refine de_tup ?_
 refine da_cons ?_ ?_
 exact de_int
 exact da_nil
 exact da_nil
 exact dg_name (i := 0) nd_c14 rfl (by first | exact Or.inl rfl | exact Or.inr rfl)
 exact difs_nil
 refine de_op od_add ?_ ?_
 refine de_sliceW ?_ ?_ ?_
 exact de_var 1
 exact do_none
 refine do_some ?_
 exact de_int
 refine de_tup ?_
 refine da_cons ?_ ?_
 exact de_var 0
 exact da_nil
 exact dss_nil
 refine dss_one ?_
 refine ds_ret ?_
 exact de_var 4
set_option maxHeartbeats 0 in
theorem body_44 (C : Cn P w K mg base k f fd) (hr : Room k (A.deeper (envOfC "_law_spoilt" (defScope (top 44)) s.heap.objs.size (f 44) cdv))) :
 DSs (cxOf CX0 P w K mg base N_44 "_law_spoilt" (defScope (top 44)) (f 44) cdv A outer s H E).nox (defBody (top 44)) (b_44 (tab k)) := by
 have hu := hr.units
 unfold b_44
 refine dss_cons ?_ ?_
 refine ds_set (i := 3) nd_44 rfl (by first | exact Or.inl rfl | exact Or.inr rfl) ?_
 refine de_call C.o_35 hr C.q_35.m C.q_35.k C.q_35.d tab_len_35 ?_
 refine da_cons ?_ ?_
 exact de_var 0
 refine da_cons ?_ ?_
 refine de_ix ?_ ?_
 exact de_var 1
 exact de_int
 exact da_nil
 refine dss_cons ?_ ?_
 refine ds_set (i := 4) nd_44 rfl (by first | exact Or.inl rfl | exact Or.inr rfl) ?_
 refine de_ix ?_ ?_
 exact de_var 2
 exact de_var 3
 refine dss_cons ?_ ?_
 refine ds_set (i := 5) nd_44 rfl (by first | exact Or.inl rfl | exact Or.inr rfl) ?_
 refine de_ref ?_
 refine da_cons ?_ ?_
 refine de_callTy cd_lst C.z_list PyProof.Rows.boot_list ?_
 refine da_cons ?_ ?_
 exact de_var 2
 exact da_nil
 refine da_cons ?_ ?_
 refine de_sliceW ?_ ?_ ?_
 exact de_var 2
 refine do_some ?_
 exact de_int
 exact do_none
 refine da_cons ?_ ?_
 refine de_op od_add ?_ ?_
 exact de_var 2
 refine de_sliceW ?_ ?_ ?_
 exact de_var 2
 exact do_none
 refine do_some ?_
 exact de_int
 refine da_cons ?_ ?_
 refine de_op od_add ?_ ?_
 exact de_var 2
 refine de_tup ?_
 refine da_cons ?_ ?_
 exact de_non
 exact da_nil
 refine da_cons ?_ ?_
 refine de_ix ?_ ?_
 exact de_var 2
 exact de_int
 refine da_cons ?_ ?_
 refine de_tup ?_
 refine da_cons ?_ ?_
 exact de_var 2
 exact da_nil
 exact da_nil
 refine dss_cons ?_ ?_
 refine ds_set (i := 5) nd_44 rfl (by first | exact Or.inl rfl | exact Or.inr rfl) ?_
 refine de_op od_addR ?_ ?_
 exact de_var 5
 refine de_comp rfl rfl (compOk_of (N := N_c15) (fr := [none, some 2, some 3]) (S := (defScope (top 44))) (XN := N_44) rfl rfl (by decide +kernel)) ?_ (fun _ _ _ _ _ => ⟨?_, ?_, ?_⟩)
 refine di_seq ?_
 refine de_call C.o_43 hr C.q_43.m C.q_43.k C.q_43.d tab_len_43 ?_
 refine da_cons ?_ ?_
 exact de_var 1
 refine da_cons ?_ ?_
 exact de_var 3
 refine da_cons ?_ ?_
 exact de_var 4
 exact da_nil
 exact dg_name (i := 0) nd_c15 rfl (by first | exact Or.inl rfl | exact Or.inr rfl)
 exact difs_nil
 refine de_op od_add ?_ ?_
 refine de_op od_add ?_ ?_
 refine de_sliceW ?_ ?_ ?_
 exact de_var 1
 exact do_none
 refine do_some ?_
 exact de_var 2
 refine de_tup ?_
 refine da_cons ?_ ?_
 exact de_var 0
 exact da_nil
 refine de_sliceW ?_ ?_ ?_
 exact de_var 1
 refine do_some ?_
 refine de_op od_add ?_ ?_
 exact de_var 2
 exact de_int
 exact do_none
 refine dss_cons ?_ ?_
 refine ds_if ?_ ?_ ?_
 refine dt_cmp od_gt ?_ ?_
 refine de_ix ?_ ?_
 exact de_var 1
 exact de_int
 exact de_int
 refine dss_cons ?_ ?_
 refine ds_set (i := 6) nd_44 rfl (by first | exact Or.inl rfl | exact Or.inr rfl) ?_
 refine de_lst ?_
 refine da_cons ?_ ?_
 refine de_tup ?_
 refine da_cons ?_ ?_
 exact de_str
 refine da_cons ?_ ?_
 refine de_tup ?_
 refine da_cons ?_ ?_
 exact de_int
 exact da_nil
 exact da_nil
 refine da_cons ?_ ?_
 refine de_tup ?_
 refine da_cons ?_ ?_
 exact de_str
 refine da_cons ?_ ?_
 exact de_int
 exact da_nil
 refine da_cons ?_ ?_
 refine de_tup ?_
 refine da_cons ?_ ?_
 exact de_str
 refine da_cons ?_ ?_
 refine de_tup ?_
 refine da_cons ?_ ?_
 refine de_tup ?_
 refine da_cons ?_ ?_
 exact de_str
 exact da_nil
 exact da_nil
 exact da_nil
 exact da_nil
 refine dss_one ?_
 refine ds_set (i := 5) nd_44 rfl (by first | exact Or.inl rfl | exact Or.inr rfl) ?_
 refine de_op od_addR ?_ ?_
 exact de_var 5
 refine de_comp rfl rfl (compOk_of (N := N_c16) (fr := [none, some 4, some 2, some 3]) (S := (defScope (top 44))) (XN := N_44) rfl rfl (by decide +kernel)) ?_ (fun _ _ _ _ _ => ⟨?_, ?_, ?_⟩)
 refine di_seq ?_
 exact de_var 6
 exact dg_name (i := 0) nd_c16 rfl (by first | exact Or.inl rfl | exact Or.inr rfl)
 refine difs_one ?_
 refine dt_cmp (od_neD hu) ?_ ?_
 refine de_ix ?_ ?_
 exact de_var 0
 exact de_int
 refine de_ix ?_ ?_
 exact de_var 1
 exact de_int
 refine de_op od_add ?_ ?_
 refine de_op od_add ?_ ?_
 refine de_sliceW ?_ ?_ ?_
 exact de_var 2
 exact do_none
 refine do_some ?_
 exact de_var 3
 refine de_tup ?_
 refine da_cons ?_ ?_
 exact de_var 0
 exact da_nil
 refine de_sliceW ?_ ?_ ?_
 exact de_var 2
 refine do_some ?_
 refine de_op od_add ?_ ?_
 exact de_var 3
 exact de_int
 exact do_none
 exact dss_nil
 refine dss_cons ?_ ?_
 refine ds_if ?_ ?_ ?_
 refine DW.dt ?_
 refine dw_and ?_ ?_
 refine dt_cmp od_gt ?_ ?_
 refine de_ix ?_ ?_
 exact de_var 1
 exact de_int
 exact de_int
 refine dw_and1 ?_
 refine dt_cmp (od_eq hu) ?_ ?_
 refine de_ix ?_ ?_
 exact de_var 4
 exact de_int
 exact de_str
 refine dss_one ?_
 refine ds_expr ?_
 refine de_append ?_ ?_
 exact de_var 5
 refine de_op od_add ?_ ?_
 refine de_op od_add ?_ ?_
 refine de_sliceW ?_ ?_ ?_
 exact de_var 2
 exact do_none
 refine do_some ?_
 exact de_var 3
 refine de_tup ?_
 refine da_cons ?_ ?_
 refine de_ix ?_ ?_
 exact de_var 2
 refine de_op od_sub ?_ ?_
 exact de_var 3
 exact de_int
 exact da_nil
 refine de_sliceW ?_ ?_ ?_
 exact de_var 2
 refine do_some ?_
 refine de_op od_add ?_ ?_
 exact de_var 3
 exact de_int
 exact do_none
 exact dss_nil
 refine dss_cons ?_ ?_
 refine ds_if ?_ ?_ ?_
 refine DW.dt ?_
 refine dw_and ?_ ?_
 refine dt_cmp od_gt ?_ ?_
 refine de_ix ?_ ?_
 exact de_var 1
 exact de_int
 exact de_int
 refine dw_and1 ?_
 refine dt_cmp od_in ?_ ?_
 refine de_ix ?_ ?_
 exact de_var 4
 exact de_int
 refine de_tup ?_
 refine da_cons ?_ ?_
 exact de_str
 refine da_cons ?_ ?_
 exact de_str
 exact da_nil
 refine dss_one ?_
 refine ds_expr ?_
 refine de_append ?_ ?_
 exact de_var 5
 refine de_op od_add ?_ ?_
 refine de_op od_add ?_ ?_
 refine de_sliceW ?_ ?_ ?_
 exact de_var 2
 exact do_none
 refine do_some ?_
 exact de_var 3
 refine de_tup ?_
 refine da_cons ?_ ?_
 refine de_op od_add ?_ ?_
 refine de_sliceW ?_ ?_ ?_
 exact de_var 4
 exact do_none
 refine do_some ?_
 exact de_int
 refine de_tup ?_
 refine da_cons ?_ ?_
 refine de_op od_add ?_ ?_
 exact de_int
 refine de_op od_mod ?_ ?_
 refine de_ix ?_ ?_
 exact de_var 4
 exact de_int
 refine de_ix ?_ ?_
 exact de_var 1
 exact de_int
 exact da_nil
 exact da_nil
 refine de_sliceW ?_ ?_ ?_
 exact de_var 2
 refine do_some ?_
 refine de_op od_add ?_ ?_
 exact de_var 3
 exact de_int
 exact do_none
 exact dss_nil
 refine dss_one ?_
 refine ds_ret ?_
 exact de_var 5
set_option maxHeartbeats 0 in
theorem body_45 (C : Cn P w K mg base k f fd) (hr : Room k (A.deeper (envOfC "_law_others" (defScope (top 45)) s.heap.objs.size (f 45) cdv))) :
 DSs (cxOf CX0 P w K mg base N_45 "_law_others" (defScope (top 45)) (f 45) cdv A outer s H E).nox (defBody (top 45)) (b_45 (tab k)) := by
 have hu := hr.units
 unfold b_45
 refine dss_cons ?_ ?_
 refine ds_set (i := 1) nd_45 rfl (by first | exact Or.inl rfl | exact Or.inr rfl) ?_
 refine de_lst ?_
 refine da_cons ?_ ?_
 refine de_callTy cd_tup C.z_tuple PyProof.Rows.boot_tuple ?_
 refine da_cons ?_ ?_
 refine de_comp rfl rfl (compOk_of (N := N_c17) (fr := [none]) (S := (defScope (top 45))) (XN := N_45) rfl rfl (by decide +kernel)) ?_ (fun _ _ _ _ _ => ⟨?_, ?_, ?_⟩)
 refine di_r1 rfl C.z_range ?_
 refine da_cons ?_ ?_
 exact de_var 0
 exact da_nil
 exact dg_name (i := 0) nd_c17 rfl (by first | exact Or.inl rfl | exact Or.inr rfl)
 exact difs_nil
 refine de_tup ?_
 refine da_cons ?_ ?_
 exact de_str
 refine da_cons ?_ ?_
 refine de_op od_mul ?_ ?_
 exact de_int
 exact de_var 0
 exact da_nil
 exact da_nil
 refine da_cons ?_ ?_
 refine de_op od_mul ?_ ?_
 refine de_tup ?_
 refine da_cons ?_ ?_
 refine de_tup ?_
 refine da_cons ?_ ?_
 exact de_str
 refine da_cons ?_ ?_
 exact de_int
 refine da_cons ?_ ?_
 exact de_int
 exact da_nil
 exact da_nil
 exact de_var 0
 exact da_nil
 refine dss_one ?_
 refine ds_ret ?_
 refine de_op od_add ?_ ?_
 exact de_var 1
 refine de_lst ?_
 refine da_cons ?_ ?_
 refine de_op od_mul ?_ ?_
 refine de_tup ?_
 refine da_cons ?_ ?_
 refine de_tup ?_
 refine da_cons ?_ ?_
 exact de_str
 refine da_cons ?_ ?_
 refine de_tup ?_
 refine da_cons ?_ ?_
 exact de_int
 refine da_cons ?_ ?_
 exact de_non
 exact da_nil
 exact da_nil
 exact da_nil
 exact de_var 0
 refine da_cons ?_ ?_
 refine de_op od_mul ?_ ?_
 refine de_tup ?_
 refine da_cons ?_ ?_
 refine de_tup ?_
 refine da_cons ?_ ?_
 exact de_str
 refine da_cons ?_ ?_
 exact de_int
 refine da_cons ?_ ?_
 exact de_int
 exact da_nil
 exact da_nil
 exact de_var 0
 exact da_nil
set_option maxHeartbeats 0 in
theorem body_46 (C : Cn P w K mg base k f fd) (hr : Room k (A.deeper (envOfC "law" (defScope (top 46)) s.heap.objs.size (f 46) cdv))) :
 DSs (cxOf CX0 P w K mg base N_46 "law" (defScope (top 46)) (f 46) cdv A outer s H E).nox (defBody (top 46)) (b_46 (tab k)) := by
 have hu := hr.units
 unfold b_46
 refine dss_cons ?_ ?_
 refine ds_for PassesOwn.never rfl ?_ ?_ ?_
 refine di_r1 rfl C.z_range ?_
 refine da_cons ?_ ?_
 refine de_callB (cd_max rfl) C.z_max PyProof.Rows.boot_max ?_
 refine da_cons ?_ ?_
 exact de_int
 refine da_cons ?_ ?_
 refine de_callB (cd_min rfl) C.z_min PyProof.Rows.boot_min ?_
 refine da_cons ?_ ?_
 exact de_int
 refine da_cons ?_ ?_
 refine de_callB cd_len C.z_len PySem.boot_len ?_
 refine da_cons ?_ ?_
 exact de_var 0
 exact da_nil
 exact da_nil
 exact da_nil
 exact da_nil
 exact dg_name (i := 1) nd_46 rfl (by first | exact Or.inl rfl | exact Or.inr rfl)
 refine dss_cons ?_ ?_
 refine ds_set (i := 2) nd_46 rfl (by first | exact Or.inl rfl | exact Or.inr rfl) ?_
 refine de_call C.o_34 hr C.q_34.m C.q_34.k C.q_34.d tab_len_34 ?_
 refine da_cons ?_ ?_
 exact de_var 0
 refine da_cons ?_ ?_
 exact de_var 1
 exact da_nil
 refine dss_cons ?_ ?_
 refine ds_for PassesOwn.never rfl ?_ ?_ ?_
 refine di_r1 rfl C.z_range ?_
 refine da_cons ?_ ?_
 exact de_int
 exact da_nil
 exact dg_name (i := 3) nd_46 rfl (by first | exact Or.inl rfl | exact Or.inr rfl)
 refine dss_cons ?_ ?_
 refine ds_set (i := 4) nd_46 rfl (by first | exact Or.inl rfl | exact Or.inr rfl) ?_
 refine de_op od_add ?_ ?_
 exact de_int
 refine de_call C.o_35 hr C.q_35.m C.q_35.k C.q_35.d tab_len_35 ?_
 refine da_cons ?_ ?_
 exact de_var 2
 refine da_cons ?_ ?_
 exact de_int
 exact da_nil
 refine dss_cons ?_ ?_
 refine ds_set (i := 5) nd_46 rfl (by first | exact Or.inl rfl | exact Or.inr rfl) ?_
 refine de_call C.o_37 hr C.q_37.m C.q_37.k C.q_37.d tab_len_37 ?_
 refine da_cons ?_ ?_
 exact de_var 2
 refine da_cons ?_ ?_
 exact de_var 4
 exact da_nil
 refine dss_cons ?_ ?_
 refine ds_set (i := 6) nd_46 rfl (by first | exact Or.inl rfl | exact Or.inr rfl) ?_
 refine de_callTy cd_tup C.z_tuple PyProof.Rows.boot_tuple ?_
 refine da_cons ?_ ?_
 refine de_comp rfl rfl (compOk_of (N := N_c18) (fr := [none, some 2, some 5]) (S := (defScope (top 46))) (XN := N_46) rfl rfl (by decide +kernel)) ?_ (fun _ _ _ _ _ => ⟨?_, ?_, ?_⟩)
 refine di_r1 rfl C.z_range ?_
 refine da_cons ?_ ?_
 exact de_var 4
 exact da_nil
 exact dg_name (i := 0) nd_c18 rfl (by first | exact Or.inl rfl | exact Or.inr rfl)
 exact difs_nil
 refine de_call C.o_41 hr C.q_41.m C.q_41.k C.q_41.d tab_len_41 ?_
 refine da_cons ?_ ?_
 exact de_var 1
 refine da_cons ?_ ?_
 exact de_var 2
 refine da_cons ?_ ?_
 exact de_var 0
 refine da_cons ?_ ?_
 refine de_call C.o_35 hr C.q_35.m C.q_35.k C.q_35.d tab_len_35 ?_
 refine da_cons ?_ ?_
 exact de_var 1
 refine da_cons ?_ ?_
 exact de_int
 exact da_nil
 exact da_nil
 exact da_nil
 refine dss_cons ?_ ?_
 refine ds_if ?_ ?_ ?_
 refine DW.dt ?_
 refine dw_and ?_ ?_
 refine dt_cmp (od_neD hu) ?_ ?_
 refine de_ix ?_ ?_
 exact de_var 5
 exact de_int
 exact de_str
 refine dw_and1 ?_
 refine dt_cmp od_gt ?_ ?_
 refine de_call C.o_35 hr C.q_35.m C.q_35.k C.q_35.d tab_len_35 ?_
 refine da_cons ?_ ?_
 exact de_var 2
 refine da_cons ?_ ?_
 exact de_int
 exact da_nil
 exact de_int
 refine dss_one ?_
 refine ds_set (i := 6) nd_46 rfl (by first | exact Or.inl rfl | exact Or.inr rfl) ?_
 refine de_call C.o_42 hr C.q_42.m C.q_42.k C.q_42.d tab_len_42 ?_
 refine da_cons ?_ ?_
 exact de_var 2
 refine da_cons ?_ ?_
 exact de_var 4
 exact da_nil
 exact dss_nil
 refine dss_cons ?_ ?_
 refine ds_if ?_ ?_ ?_
 refine dt_cmp od_isnt ?_ ?_
 refine de_call C.o_27 hr C.q_27.m C.q_27.k C.q_27.d tab_len_27 ?_
 refine da_cons ?_ ?_
 exact de_var 5
 refine da_cons ?_ ?_
 exact de_var 6
 exact da_nil
 exact de_bl
 refine dss_one ?_
 refine ds_ret ?_
 exact de_bl
 exact dss_nil
 refine dss_cons ?_ ?_
 refine ds_set (i := 7) nd_46 rfl (by first | exact Or.inl rfl | exact Or.inr rfl) ?_
 refine de_op od_add ?_ ?_
 refine de_call C.o_44 hr C.q_44.m C.q_44.k C.q_44.d tab_len_44 ?_
 refine da_cons ?_ ?_
 exact de_var 2
 refine da_cons ?_ ?_
 exact de_var 5
 refine da_cons ?_ ?_
 exact de_var 6
 exact da_nil
 refine de_lst ?_
 refine da_cons ?_ ?_
 exact de_non
 refine da_cons ?_ ?_
 exact de_bl
 refine da_cons ?_ ?_
 exact de_int
 refine da_cons ?_ ?_
 exact de_str
 refine da_cons ?_ ?_
 exact de_dict0
 refine da_cons ?_ ?_
 refine de_op od_mul ?_ ?_
 refine de_tup ?_
 refine da_cons ?_ ?_
 exact de_non
 exact da_nil
 exact de_var 4
 refine da_cons ?_ ?_
 refine de_op od_mul ?_ ?_
 refine de_tup ?_
 refine da_cons ?_ ?_
 refine de_tup ?_
 exact da_nil
 exact da_nil
 exact de_var 4
 exact da_nil
 refine dss_one ?_
 refine ds_if ?_ ?_ ?_
 refine DW.dt ?_
 refine dw_or ?_ ?_
 refine dt_not ?_
 refine dt_tru ?_
 refine de_callB (cd_all rfl) C.z_all PyProof.Rows.boot_all ?_
 refine da_cons ?_ ?_
 refine de_comp rfl rfl (compOk_of (N := N_c19) (fr := [none, some 5]) (S := (defScope (top 46))) (XN := N_46) rfl rfl (by decide +kernel)) ?_ (fun _ _ _ _ _ => ⟨?_, ?_, ?_⟩)
 refine di_seq ?_
 exact de_var 7
 exact dg_name (i := 0) nd_c19 rfl (by first | exact Or.inl rfl | exact Or.inr rfl)
 exact difs_nil
 refine de_cmp od_is ?_ ?_
 refine de_call C.o_27 hr C.q_27.m C.q_27.k C.q_27.d tab_len_27 ?_
 refine da_cons ?_ ?_
 exact de_var 1
 refine da_cons ?_ ?_
 exact de_var 0
 exact da_nil
 exact de_bl
 exact da_nil
 refine dw_or1 ?_
 refine dt_cmp od_isnt ?_ ?_
 refine de_call C.o_27 hr C.q_27.m C.q_27.k C.q_27.d tab_len_27 ?_
 refine da_cons ?_ ?_
 exact de_var 5
 refine da_cons ?_ ?_
 exact de_var 6
 exact da_nil
 exact de_bl
 refine dss_one ?_
 refine ds_ret ?_
 exact de_bl
 exact dss_nil
 refine dss_cons ?_ ?_
 refine ds_set (i := 4) nd_46 rfl (by first | exact Or.inl rfl | exact Or.inr rfl) ?_
 refine de_op od_add ?_ ?_
 exact de_int
 refine de_call C.o_35 hr C.q_35.m C.q_35.k C.q_35.d tab_len_35 ?_
 refine da_cons ?_ ?_
 exact de_var 2
 refine da_cons ?_ ?_
 exact de_int
 exact da_nil
 refine dss_one ?_
 refine ds_for PassesOwn.never rfl ?_ ?_ ?_
 refine di_seq ?_
 refine de_lst ?_
 refine da_cons ?_ ?_
 refine de_tup ?_
 refine da_cons ?_ ?_
 exact de_str
 refine da_cons ?_ ?_
 exact de_var 4
 refine da_cons ?_ ?_
 exact de_int
 refine da_cons ?_ ?_
 exact de_int
 refine da_cons ?_ ?_
 exact de_int
 refine da_cons ?_ ?_
 exact de_int
 exact da_nil
 refine da_cons ?_ ?_
 refine de_call C.o_39 hr C.q_39.m C.q_39.k C.q_39.d tab_len_39 ?_
 refine da_cons ?_ ?_
 exact de_var 2
 refine da_cons ?_ ?_
 exact de_var 4
 exact da_nil
 exact da_nil
 exact dg_name (i := 8) nd_46 rfl (by first | exact Or.inl rfl | exact Or.inr rfl)
 refine dss_one ?_
 refine ds_if ?_ ?_ ?_
 refine dt_not ?_
 refine dt_tru ?_
 refine de_callB (cd_all rfl) C.z_all PyProof.Rows.boot_all ?_
 refine da_cons ?_ ?_
 refine de_comp rfl rfl (compOk_of (N := N_c20) (fr := [none, some 8]) (S := (defScope (top 46))) (XN := N_46) rfl rfl (by decide +kernel)) ?_ (fun _ _ _ _ _ => ⟨?_, ?_, ?_⟩)
 refine di_seq ?_
 refine de_call C.o_45 hr C.q_45.m C.q_45.k C.q_45.d tab_len_45 ?_
 refine da_cons ?_ ?_
 exact de_var 4
 exact da_nil
 exact dg_name (i := 0) nd_c20 rfl (by first | exact Or.inl rfl | exact Or.inr rfl)
 exact difs_nil
 refine de_cmp od_is ?_ ?_
 refine de_call C.o_27 hr C.q_27.m C.q_27.k C.q_27.d tab_len_27 ?_
 refine da_cons ?_ ?_
 exact de_var 1
 refine da_cons ?_ ?_
 exact de_var 0
 exact da_nil
 exact de_bl
 exact da_nil
 refine dss_one ?_
 refine ds_ret ?_
 exact de_bl
 exact dss_nil
 refine dss_one ?_
 refine ds_ret ?_
 exact de_bl
end
end
end K09
namespace K09
open PySem L3 L2 Pd
theorem okW (k : Nat) : WholeOk (tab (k + 1) 1) := whole_ok
theorem okI (k : Nat) : WithinOk (tab (k + 2) 2) := within_ok (okW k)
theorem okF (k : Nat) : FiguredOk (tab (k + 3) 3) := figured_ok (okI k)
theorem okL (k : Nat) : TupleOfOk (tab (k + 1) 4) := tupleOf_ok
theorem okVw : ∀ n k, VwOk (tab (k + n + 4) 16) n
  | 0, k => vw_ok0 (okF k)
  | n + 1, k => vw_ok1 (n := n) (okF (k + n + 1)) (okL (k + n + 3)) (okVw n k)
theorem okV (k : Nat) : ValOk (tab (k + 8) 15) := val_ok (okVw 3 k)
theorem okH (k : Nat) : HandOk (tab (k + 1) 34) := hand_ok
theorem okT (k : Nat) : TakeOk (tab (k + 1) 35) := take_ok
theorem okP (k : Nat) : PickOk (tab (k + 2) 36) := pick_ok (okT k)
theorem at_c {x : D} {xs : List D} : atI (x :: xs) 0 = some x := by
  have h : (0 : Int) < ((x :: xs).length : Int) := by rw [List.length_cons]; omega
  unfold atI ixN
  rw [if_pos (Int.le_refl 0), if_pos h]
  rfl
theorem at_1 {x y : D} {xs : List D} : atI (x :: y :: xs) 1 = some y := at_nat (n := 1) rfl
theorem at_2 {x y z : D} {xs : List D} : atI (x :: y :: z :: xs) 2 = some z := at_nat (n := 2) rfl
structure Mn (m : D) (w : Str) (h pl : Int) : Prop where
  fm : ∃ r, m = .tup (.str w :: .int h :: r)
  wd : (w = "shared" ∧ ∃ r, m = .tup (.str w :: .int h :: .int pl :: r)) ∨ ((w = "once" ∨ w = "twice" ∨ w = "handed" ∨ w = "signs" ∨ w = "tables") ∧ pl = h)
  p1 : 1 ≤ pl
  p5 : pl ≤ 5
  nr : ∀ n, noR n m = true
theorem num_h {k : Nat} {g : G} {m : D} {w : Str} {h pl : Int} (hm : Mn m w h pl) : tab (k + 1) 8 [m, .str "hands"] g = some (.int h, g) := by
  obtain ⟨r, rfl⟩ := hm.fm
  have hw : w = "shared" ∨ w = "once" ∨ w = "twice" ∨ w = "handed" ∨ w = "signs" ∨ w = "tables" := by
    rcases hm.wd with ⟨e, _⟩ | ⟨e, _⟩
    · exact .inl e
    · exact .inr e
  have key : ∀ xs : List D, tGet tbl_NUMBERS w = some (.tup xs) → idxD xs (.str "hands") = some 0 → xs.all flt = true → tab (k + 1) 8 [.tup (.str w :: .int h :: r), .str "hands"] g = some (.int h, g) := by
    intro xs h1 h2 h3
    have f0 : flt (.str "hands") = true := rfl
    have h3' : ∀ x ∈ xs, flt x = true := List.all_eq_true.mp h3
    refine ev_run (σ' := [some (.tup (.str w :: .int h :: r)), some (.str "hands")]) rfl ?_ rfl
    have h4 : (∀ x, x ∈ xs → flt x = true) = True := eq_true h3'
    simp [b_8, fDIdx, at_c, h1, h2, f0, h4, at_1]
  rcases hw with rfl | rfl | rfl | rfl | rfl | rfl
  · exact key _ rfl (by decide) (by decide)
  · exact key _ rfl (by decide) (by decide)
  · exact key _ rfl (by decide) (by decide)
  · exact key _ rfl (by decide) (by decide)
  · exact key _ rfl (by decide) (by decide)
  · exact key _ rfl (by decide) (by decide)
theorem okPl {k : Nat} {g : G} {m : D} {w : Str} {h pl : Int} (hm : Mn m w h pl) : tab (k + 3) 10 [m] g = some (.int pl, g) := by
  have e9 : ∀ k, tab (k + 2) 9 [m] g = some (.int h, g) := fun k => ev_run (σ' := [some m]) rfl (by simp [b_9, num_h hm]) rfl
  rcases hm.wd with ⟨rfl, r, rfl⟩ | ⟨hw, rfl⟩
  · have e8 : tab (k + 2) 8 [.tup (.str "shared" :: .int h :: .int pl :: r), .str "places"] g = some (.int pl, g) := by
      have h1 : tGet tbl_NUMBERS (Str.ofString "shared") = some (.tup [.str "hands", .str "places", .str "toggles", .str "shakes", .str "moves"]) := rfl
      have h2 : idxD [.str "hands", .str "places", .str "toggles", .str "shakes", .str "moves"] (.str "places") = some 1 := by decide
      refine ev_run (σ' := [some (.tup (.str "shared" :: .int h :: .int pl :: r)), some (.str "places")]) rfl ?_ rfl
      simp [b_8, fDIdx, at_c, h1, h2, flt, at_2]
    refine ev_run (σ' := [some (.tup (.str "shared" :: .int h :: .int pl :: r))]) rfl ?_ rfl
    simp [b_10, at_c, e8]
  · obtain ⟨r, rfl⟩ := hm.fm
    have hne : ¬ w = Str.ofString "shared" := by rcases hw with rfl | rfl | rfl | rfl | rfl <;> decide
    refine ev_run (σ' := [some (.tup (.str w :: .int pl :: r))]) rfl ?_ rfl
    simp [b_10, at_c, hne, e9 k]
theorem beqI {i j : Int} : (i == j) = decide (i = j) := by by_cases h : i = j <;> simp [h]
def mp (w : Str) (pl own : Int) (p : D) : Bool := match p with
  | .int i => decide (0 ≤ i) && decide (i ≤ pl - 1) && (decide (w = "shared") || decide (i = own))
  | _ => false
def mv (w : Str) (v : D) : Bool := if w = "tables" then (match v with | .int i => decide (i = 1) | _ => false) else isVal 3 v
def dB (w : Str) (pl own : Int) (d : D) : Bool := match d with
  | .tup (.str x :: xs) => if x = "look" then decide (xs.length = 0) else if x = "put" then (match xs with | [p, v] => mp w pl own p && mv w v | _ => false) else false
  | _ => false
section
variable {k : Nat} {g : G} {m : D} {w : Str} {h pl own : Int}
theorem ok19 (hm : Mn m w h pl) (p : D) : tab (k + 4) 19 [m, .int own, p] g = some (.bl (mp w pl own p), g) := by
  obtain ⟨r, hr⟩ := hm.fm
  have e10 := okPl (k := k) (g := g) hm
  have e2 := okI (k + 1) p 0 (pl - 1) g
  have sq : seqOf m g = some (.str w :: .int h :: r) := by rw [hr]; rfl
  refine ev_run (σ' := [some m, some (.int own), some p]) rfl ?_ rfl
  cases p with
  | int i =>
    by_cases h1 : 0 ≤ i
    · by_cases h2 : i ≤ pl - 1
      · by_cases hw : w = "shared"
        · simp [b_19, e10, e2, within, mp, h1, h2, sq, at_c, hw]
        · simp [b_19, e10, e2, within, mp, h1, h2, sq, at_c, hw, beqI]
      · simp [b_19, e10, e2, within, mp, h1, h2]
    · simp [b_19, e10, e2, within, mp, h1]
  | _ => simp [b_19, e10, e2, within, mp]
theorem ok20 (hm : Mn m w h pl) (v : D) : tab (k + 9) 20 [m, v] g = some (.bl (mv w v), g) := by
  obtain ⟨r, hr⟩ := hm.fm
  have e1 := okW (k + 7) v g
  have e15 := okV k v g
  have sq : seqOf m g = some (.str w :: .int h :: r) := by rw [hr]; rfl
  refine ev_run (σ' := [some m, some v]) rfl ?_ rfl
  by_cases hw : w = "tables"
  · cases v with
    | int i => simp [b_20, sq, at_c, hw, e1, isWhole, mv, beqI]
    | _ => simp [b_20, sq, at_c, hw, e1, isWhole, mv]
  · simp [b_20, sq, at_c, hw, e15, mv]
def wordD (d : D) : D := match d with
  | .tup (.str x :: _) => .str x
  | _ => .non
theorem ok5 (d : D) : tab (k + 1) 5 [d] g = some (wordD d, g) := by
  refine ev_run (σ' := [some d]) rfl ?_ rfl
  cases d with
  | tup xs =>
    cases xs with
    | nil => simp [b_5, isI, wordD]
    | cons x xs =>
      have hl : (0 : Int) < (xs.length : Int) + 1 := by omega
      cases x <;> simp [b_5, isI, wordD, at_c, hl]
  | _ => simp [b_5, isI, wordD]
theorem okD (hm : Mn m w h pl) (d : D) : tab (k + 10) 18 [m, .int own, d] g = some (.bl (dB w pl own d), g) := by
  have e5 := ok5 (k := k + 8) (g := g) d
  refine ev_run (σ' := [some m, some (.int own), some d, some (wordD d)]) rfl ?_ rfl
  have none_ : wordD d = .non → dB w pl own d = false → b_18 (tab (k + 9)) [some m, some (.int own), some d, none] g = some (.rt (.bl false), [some m, some (.int own), some d, some .non], g) := by
    intro h1 h2
    rw [h1] at e5
    have en : ∀ x : Str, oEq .non (.str x) g = some (.bl false, g) := fun x => rfl
    simp [b_18, e5, en, eqD, flat, dep]
  cases d with
  | tup xs =>
    cases xs with
    | nil => exact none_ rfl rfl
    | cons x xs =>
      cases x with
      | str x =>
        have e5' : tab (k + 9) 5 [.tup (.str x :: xs)] g = some (.str x, g) := e5
        have wd : wordD (.tup (.str x :: xs)) = .str x := rfl
        rw [wd]
        by_cases hl : x = "look"
        · subst hl
          by_cases h0 : xs.length = 0
          · have hx : xs = [] := List.length_eq_zero_iff.mp h0
            subst hx
            simp [b_18, e5', dB]
          · have h0' : ¬ ((xs.length : Int) + 1 = 1) := by omega
            simp [b_18, e5', dB, h0, h0']
        · by_cases hp : x = "put"
          · subst hp
            have hpl : ¬ Str.ofString "put" = Str.ofString "look" := by decide
            have go : ¬ xs.length = 2 → b_18 (tab (k + 9)) [some m, some (.int own), some (.tup (.str "put" :: xs)), none] g = some (.rt (.bl false), [some m, some (.int own), some (.tup (.str "put" :: xs)), some (.str "put")], g) := by
              intro h2
              have h3 : ¬ ((xs.length : Int) + 1 = 3) := by omega
              simp [b_18, e5', hpl, eqD, flat, dep, h3]
            cases xs with
            | nil => exact (go (by simp)).trans (by simp [dB, hpl])
            | cons p xs =>
              cases xs with
              | nil => exact (go (by simp)).trans (by simp [dB, hpl])
              | cons v xs =>
                cases xs with
                | nil =>
                  have e19 := ok19 (k := k + 5) (g := g) (own := own) hm p
                  have e20 := ok20 (k := k) (g := g) hm v
                  have l3 : (([] : List D).length : Int) + 1 + 1 + 1 = 3 := by simp
                  cases hmp : mp w pl own p <;> simp [b_18, e5', hpl, eqD, flat, dep, at_1, at_2, e19, e20, dB, hmp]
                | cons y ys => exact (go (by simp)).trans (by simp [dB, hpl])
          · simp [b_18, e5', hl, hp, eqD, flat, dep, dB]
      | _ => exact none_ rfl rfl
  | _ => exact none_ rfl rfl
end
end K09
namespace K09
open PySem L3 L2 Pd
theorem intv {d : D} {l : List Int} (h : d ∈ l.map D.int) : ∃ v, d = .int v := by
  rw [List.mem_map] at h
  obtain ⟨v, hv, rfl⟩ := h
  exact ⟨v, rfl⟩
set_option maxHeartbeats 4000000 in
theorem manner_w {k n : Nat} {h : Int} {g : G} {B : Int} {Q : D × G → Prop} (hB : B + 10 < 2 ^ 40) (h0 : 0 ≤ B) (hh1 : 1 ≤ h) (hh5 : h ≤ 5) (hd : Hd g n B) (q : ∀ m w pl g', Mn m w h pl → (w ≠ "tables" ∧ (w = "shared" → pl ≤ 4)) → Hd g' n (B + 7) → Fr n g g' → Q (m, g')) : wp (tab (k + 3) 37 [.ref n, .int h] g) Q := by
  refine wp_run rfl ?_
  simp [b_37]
  refine (okT (k + 1)).w (by omega) (by decide) (by decide) hd fun w g1 w0 w1 h1 f1 => ?_
  simp
  refine (okP k).w (by omega) (by simp) (by simp) h1 fun t g2 ht h2 f2 => ?_
  simp
  refine (okT (k + 1)).w (by omega) (by decide) (by decide) h2 fun m g3 hm0 hm1 h3 f3 => ?_
  simp
  refine (okT (k + 1)).w (by omega) (by decide) (by decide) h3 fun a g4 ha0 ha1 h4 f4 => ?_
  simp
  refine (okT (k + 1)).w (by omega) (by decide) (by decide) h4 fun b g5 hb0 hb1 h5 f5 => ?_
  have F := (((f1.trans f2).trans f3).trans f4).trans f5
  obtain ⟨t, rfl⟩ := intv (l := [0, 0, 2, 3, 7, 9]) ht
  have h6 := h5.mono (B' := B + 7) (by omega)
  have : w = 0 ∨ w = 1 ∨ w = 2 ∨ w = 3 ∨ w = 4 ∨ w = 5 := by omega
  have e0 : ∀ a b : D, atI [a, b] 0 = some a := fun _ _ => rfl
  have e1 : ∀ a b : D, atI [a, b] 1 = some b := fun _ _ => rfl
  rcases this with rfl | rfl | rfl | rfl | rfl | rfl
  · simp [e0]
    exact ⟨F.1, q _ "once" h _ ⟨⟨_, rfl⟩, .inr ⟨.inl rfl, rfl⟩, hh1, hh5, fun n => by simp [noR, noRs]⟩ ⟨by decide, fun e => absurd e (by decide)⟩ h6 F⟩
  · simp [e1]
    exact ⟨F.1, q _ "twice" h _ ⟨⟨_, rfl⟩, .inr ⟨.inr (.inl rfl), rfl⟩, hh1, hh5, fun n => by simp [noR, noRs]⟩ ⟨by decide, fun e => absurd e (by decide)⟩ h6 F⟩
  · simp
    exact ⟨F.1, q _ "handed" h _ ⟨⟨_, rfl⟩, .inr ⟨.inr (.inr (.inl rfl)), rfl⟩, hh1, hh5, fun n => by simp [noR, noRs]⟩ ⟨by decide, fun e => absurd e (by decide)⟩ h6 F⟩
  · simp
    exact ⟨F.1, q _ "signs" h _ ⟨⟨_, rfl⟩, .inr ⟨.inr (.inr (.inr (.inl rfl))), rfl⟩, hh1, hh5, fun n => by simp [noR, noRs]⟩ ⟨by decide, fun e => absurd e (by decide)⟩ h6 F⟩
  all_goals
    simp
    refine (okT (k + 1)).w (by omega) (by decide) (by decide) h5 fun p g6 p0 p1 h7 f6 => ?_
    simp
    exact ⟨(F.trans f6).1, q _ "shared" (1 + p) _ ⟨⟨_, rfl⟩, .inl ⟨rfl, _, rfl⟩, by omega, by omega, fun n => by simp [noR, noRs]⟩ ⟨by decide, fun _ => by omega⟩ (h7.mono (by omega)) (F.trans f6)⟩
theorem eight {r : Int} (h0 : 0 ≤ r) (h1 : r < 8) : ∃ x : Int, atI [D.int 2, .int 3, .int 4, .int 5, .int 6, .int 8, .int 1, .int 40] r = some (.int x) ∧ 1 ≤ x ∧ x ≤ 40 := by
  have : r = 0 ∨ r = 1 ∨ r = 2 ∨ r = 3 ∨ r = 4 ∨ r = 5 ∨ r = 6 ∨ r = 7 := by omega
  rcases this with rfl | rfl | rfl | rfl | rfl | rfl | rfl | rfl
  · exact ⟨2, rfl, by omega, by omega⟩
  · exact ⟨3, rfl, by omega, by omega⟩
  · exact ⟨4, rfl, by omega, by omega⟩
  · exact ⟨5, rfl, by omega, by omega⟩
  · exact ⟨6, rfl, by omega, by omega⟩
  · exact ⟨8, rfl, by omega, by omega⟩
  · exact ⟨1, rfl, by omega, by omega⟩
  · exact ⟨40, rfl, by omega, by omega⟩
def Nr (d : D) : Prop := ∀ n, noR n d = true
def Nrs (xs : List D) : Prop := ∀ n, noRs n xs = true
theorem Nrs.app {xs : List D} {d : D} (h : Nrs xs) (hd : Nr d) : Nrs (xs ++ [d]) := fun n => noRs_app (h n) (by simp [noRs, hd n])
theorem draw_w {k n : Nat} {m : Int} {g : G} {B : Int} {c : Nat} {Q : List D × G → Prop} (hc : c ≤ 100) (hB : B + 200 < 2 ^ 40) (hB0 : 0 ≤ B) (m0 : 0 < m) (m1 : m < 1073741824) (hd : Hd g n B)
    (q : ∀ (vs : List Int) g', vs.length = c → (∀ v ∈ vs, 0 ≤ v ∧ v < m) → Hd g' n (B + c) → Fr n g g' → Q (vs.map .int, g')) :
    wp (compL (gN 0) fTrue (fCall (tab (k + 1) 35) (fCons (fVar 1) (fCons (fC (.int m)) fNil))) (rng 0 c) [none, some (.ref n)] g) Q := by
  refine wp_compL (fun i acc σ gg => (∃ o, σ = [o, some (.ref n)]) ∧ Hd gg n (B + i) ∧ Fr n g gg ∧ ∃ vs : List Int, acc = vs.map .int ∧ vs.length = i ∧ ∀ v ∈ vs, 0 ≤ v ∧ v < m) _ 0 _ _ [] ⟨⟨none, rfl⟩, hd.mono (by omega), Fr.refl, [], rfl, rfl, by simp⟩ ?_ ?_
  · rintro i d acc σ gg hdi ⟨⟨o, rfl⟩, hg, fg, vs, rfl, hl, hv⟩
    obtain ⟨hi, rfl⟩ := rng_get0 hdi
    simp
    refine (okT k).w (by omega) m0 m1 hg fun v g7 v0 v1 h7 f7 => ?_
    refine ⟨h7.mono (by omega), fg.trans f7, vs ++ [v], by simp, by simp; omega, fun y hy => ?_⟩
    rcases List.mem_append.mp hy with hy | hy
    · exact hv y hy
    · simp at hy; subst hy; exact ⟨v0, v1⟩
  · rintro xs σ gg ⟨⟨o, rfl⟩, hg, fg, vs, e, hl, hv⟩
    simp only [List.nil_append] at e
    subst e
    rw [rng_len] at hl hg
    exact q vs gg (by omega) hv (hg.mono (by omega)) fg
theorem small_of {vs : List Int} (h3 : vs.length ≤ 3) (h : ∀ v ∈ vs, 0 ≤ v ∧ v < 10) : small16 vs = true := by
  unfold small16
  rw [Bool.and_eq_true, decide_eq_true_eq, List.all_eq_true]
  refine ⟨h3, fun v hv => ?_⟩
  have := h v hv
  rw [Bool.and_eq_true, decide_eq_true_eq, decide_eq_true_eq]
  omega
theorem once_len (vs : List Int) : (PySem.W.sortI (once vs)).length ≤ vs.length := by
  rw [(PySem.W.sortI_perm (once vs)).length_eq]
  unfold once SW.zs
  rw [List.length_map]
  exact SW.seen_len _ _
def rwb (k : Nat) : FS := fIf (fTest (fOp oEq (fCall (tab k 35) (fCons (fVar 0) (fCons (fC (.int 2)) (fNil)))) (fC (.int 0)))) (fSeq (fAsg (fSSet (fComp cLst (iR1 (fCons (fCall (tab k 35) (fCons (fVar 0) (fCons (fC (.int 4)) (fNil)))) (fNil))) [none, some 0] (gN 0) (fTrue) (fCall (tab k 35) (fCons (fVar 1) (fCons (fC (.int 10)) (fNil)))))) (gN 9)) (fDrop (fApp (fVar 5) (fMk mkTup (fCons (fC (.str "read")) (fCons (fVar 7) (fCons (fCall bTup (fCons (fComp cLst (iSeq (fVar 9)) [none, some 0, some 4] (gN 0) (fTrue) (fMk mkTup (fCons (fVar 0) (fCons (fCall (tab k 35) (fCons (fVar 1) (fCons (fVar 2) (fNil)))) (fNil))))) (fNil))) (fCons (fVar 8) (fNil))))))))) (fDrop (fApp (fVar 5) (fMk mkTup (fCons (fC (.str "write")) (fCons (fVar 7) (fCons (fCall (tab k 35) (fCons (fVar 0) (fCons (fC (.int 10)) (fNil)))) (fCons (fVar 8) (fNil))))))))
def ab (k : Nat) : FS := fDrop (fApp (fVar 5) (fOp oIx (fMk mkLst (fCons (fMk mkTup (fCons (fC (.str "end")) (fNil))) (fCons (fMk mkTup (fCons (fC (.str "told")) (fCons (fCall bTup (fCons (fComp cLst (iR1 (fCons (fVar 2) (fNil))) [none, some 0] (gN 0) (fTrue) (fCall (tab k 35) (fCons (fVar 1) (fCons (fC (.int 2)) (fNil))))) (fNil))) (fNil)))) (fNil)))) (fCall bInt (fCons (fVar 3) (fNil)))))
theorem b38_eq {k : Nat} : b_38 (tab k) = fSeq (fAsg (fOp oIx (fMk mkLst (fCons (fC (.int 2)) (fCons (fC (.int 3)) (fCons (fC (.int 4)) (fCons (fC (.int 5)) (fCons (fC (.int 6)) (fCons (fC (.int 8)) (fCons (fC (.int 1)) (fCons (fC (.int 40)) (fNil)))))))))) (fCall (tab k 35) (fCons (fVar 0) (fCons (fC (.int 8)) (fNil))))) (gN 4)) (fSeq (fAsg (fMk mkRef (fNil)) (gN 5)) (fSeq (fFor (iR1 (fCons (fVar 4) (fNil))) (gN 6) (fSeq (fPar 7 8 (fCons (fCall (tab k 35) (fCons (fVar 0) (fCons (fVar 1) (fNil)))) (fCons (fCall (tab k 35) (fCons (fVar 0) (fCons (fVar 4) (fNil)))) (fNil)))) (fIf (fAnd (fTest (fOp oGt (fVar 6) (fC (.int 0)))) (fTest (fOp oEq (fCall (tab k 35) (fCons (fVar 0) (fCons (fC (.int 3)) (fNil)))) (fC (.int 0))))) (ab k) (rwb k)))) (fRet (fCall bTup (fCons (fVar 5) (fNil)))))) := rfl
def Row (g1 : G) (n i : Nat) (B : Int) (r : F × Sg × G) (σ : Option D → Sg) : Prop := r.1 = .nx ∧ (∃ o9, r.2.1 = σ o9) ∧ ∃ xs' : List D, xs'.length = i + 1 ∧ Nrs xs' ∧ Mk g1 r.2.2 n (B + 20) xs'
def sg (n : Nat) (boxes hands : Int) (look : Bool) (many : Int) (m i : Nat) (bx rw_ : Int) (o9 : Option D) : Sg := [some (.ref n), some (.int boxes), some (.int hands), some (.bl look), some (.int many), some (.ref m), some (.int (i : Nat)), some (.int bx), some (.int rw_), o9]
section
variable {k n i : Nat} {boxes hands many bx rw_ : Int} {look : Bool} {g1 g3 : G} {B : Int} {xs : List D} {o9 : Option D}
theorem row_fin {σ : Option D → Sg} {g4 : G} {d : D} (hl : xs.length = i) (hx : Nrs xs) (hd : Nr d) (m4 : Mk g1 g4 n (B + 20) xs) (o9 : Option D) : Row g1 n i B (.nx, σ o9, g4.set g1.length (xs ++ [d])) σ :=
  ⟨rfl, ⟨o9, rfl⟩, xs ++ [d], by simp; omega, hx.app hd, m4.put⟩
set_option maxHeartbeats 4000000 in
theorem ab_w (hB : B + 2000 < 2 ^ 40) (hB0 : 0 ≤ B) (hi : i ≤ 100) (hh1 : 1 ≤ hands) (hh5 : hands ≤ 5) (hl : xs.length = i) (hx : Nrs xs) (mk : Mk g1 g3 n (B + 4) xs) : wp (ab (k + 1) (sg n boxes hands look many g1.length i bx rw_ o9) g3) fun r => Row g1 n i B r (sg n boxes hands look many g1.length i bx rw_) := by
  have zx : szOk (xs.length + 1) = true := sz_of (by omega)
  have l3 := mk.len
  unfold ab sg
  simp [l3]
  refine iR1_w ?_
  simp
  refine ⟨by omega, by omega, ?_⟩
  have z0 : szOk (rng 0 hands.toNat).length = true := sz_of (by rw [rng_len]; omega)
  simp [z0]
  refine draw_w (c := hands.toNat) (by omega) (by omega) (by omega) (by decide) (by decide) mk.hd fun vs g4 hvl hv h4 f4 => ?_
  have m4 := (mk.step h4 f4).mono (B' := B + 20) (by omega)
  have z1 : szOk vs.length = true := sz_of (by omega)
  have ha := m4.at_
  have e0 : ∀ a b : D, atI [a, b] 0 = some a := fun _ _ => rfl
  have e1 : ∀ a b : D, atI [a, b] 1 = some b := fun _ _ => rfl
  cases look with
  | false =>
    simp [z1, e0, ha, zx]
    exact row_fin (σ := sg n boxes hands false many g1.length i bx rw_) hl hx (fun n => by simp [noR, noRs]) m4 o9
  | true =>
    simp [z1, e1, ha, zx]
    exact row_fin (σ := sg n boxes hands true many g1.length i bx rw_) hl hx (fun n => by simp [noR, noRs, noR_ints]) m4 o9
set_option maxHeartbeats 4000000 in
theorem rwb_w (hB : B + 2000 < 2 ^ 40) (hB0 : 0 ≤ B) (hi : i ≤ 100) (m1 : 1 ≤ many) (m40 : many ≤ 40) (hl : xs.length = i) (hx : Nrs xs) (mk : Mk g1 g3 n (B + 4) xs) : wp (rwb (k + 1) (sg n boxes hands look many g1.length i bx rw_ o9) g3) fun r => Row g1 n i B r (sg n boxes hands look many g1.length i bx rw_) := by
  have zx : szOk (xs.length + 1) = true := sz_of (by omega)
  unfold rwb sg
  simp only [ev_fIf, ev_fTest, ev_fOp, ev_fCall, ev_fCons, ev_fVar, ev_fC, ev_fNil, wp_bind]
  simp
  refine (okT k).w (by omega) (by decide) (by decide) mk.hd fun c g4 c0 c1 h4 f4 => ?_
  have m4 := mk.step h4 f4
  have l4 := m4.len
  by_cases hc : c = 0
  · subst hc
    simp
    refine iR1_w ?_
    simp
    refine (okT k).w (by omega) (by decide) (by decide) h4 fun t g5 t0 t1 h5 f5 => ?_
    have m5 := m4.step h5 f5
    simp
    refine ⟨by omega, by omega, ?_⟩
    have z0 : szOk (rng 0 t.toNat).length = true := sz_of (by rw [rng_len]; omega)
    simp [z0]
    refine draw_w (c := t.toNat) (by omega) (by omega) (by omega) (by decide) (by decide) h5 fun vs g6 hvl hv h6 f6 => ?_
    have m6 := m5.step h6 f6
    have l6 := m6.len
    have s16 := small_of (vs := vs) (by omega) hv
    have ol := once_len vs
    have z2 : szOk (PySem.W.sortI (once vs)).length = true := sz_of (by omega)
    simp [lstOf, ints_map, s16, l6, z2]
    generalize PySem.W.sortI (once vs) = os at *
    refine wp_compL (fun i' acc σ gg => (∃ o, σ = [o, some (.ref n), some (.int many)]) ∧ acc.length = i' ∧ Nrs acc ∧ Mk g1 gg n (B + 4 + 1 + 1 + t.toNat + i') xs) _ 0 _ _ [] ⟨⟨none, rfl⟩, rfl, fun n => rfl, m6.mono (by omega)⟩ ?_ ?_
    · rintro j d acc σ g7 hdj ⟨⟨o, rfl⟩, hal, han, m7⟩
      rw [List.getElem?_map] at hdj
      cases hj : os[j]? with
      | none => rw [hj] at hdj; cases hdj
      | some z =>
        rw [hj] at hdj
        cases hdj
        have hjl := (List.getElem?_eq_some_iff.mp hj).1
        simp
        refine (okT k).w (by omega) (by omega) (by omega) m7.hd fun v g8 v0 v1 h8 f8 => ?_
        simp
        exact ⟨by omega, han.app (fun n => by simp [noR, noRs]), (m7.step h8 f8).mono (by omega)⟩
    · rintro ys σ g7 ⟨⟨o, rfl⟩, hal, han, m7⟩
      simp only [List.nil_append] at hal han
      rw [List.length_map] at hal m7
      have z3 : szOk ys.length = true := sz_of (by omega)
      have ha := m7.at_
      simp [z3, ha, zx]
      exact row_fin (σ := sg n boxes hands look many g1.length i bx rw_) hl hx (fun n => by simp [noR, noRs, han n]) (m7.mono (by omega)) _
  · simp [hc, l4]
    refine (okT k).w (by omega) (by decide) (by decide) h4 fun v g5 v0 v1 h5 f5 => ?_
    have m5 := m4.step h5 f5
    have ha := m5.at_
    simp [ha, zx]
    exact row_fin (σ := sg n boxes hands look many g1.length i bx rw_) hl hx (fun n => by simp [noR, noRs]) (m5.mono (by omega)) o9
end
set_option maxHeartbeats 8000000 in
theorem table_w {k n : Nat} {boxes hands : Int} {look : Bool} {g : G} {B : Int} {Q : D × G → Prop} (hB : B + 4000 < 2 ^ 40) (hB0 : 0 ≤ B) (b1 : 1 ≤ boxes) (b4 : boxes ≤ 4) (hh1 : 1 ≤ hands) (hh5 : hands ≤ 5) (hd : Hd g n B) (hc : Clean g) (q : ∀ d g', Nr d → Hd g' n (B + 1000) → Fr n g g' → Q (d, g')) : wp (tab (k + 2) 38 [.ref n, .int boxes, .int hands, .bl look] g) Q := by
  refine wp_runS rfl ?_
  simp only [b38_eq, ev_fSeq, wp_bind, List.map_cons, List.map_nil, List.cons_append, List.nil_append]
  simp
  refine (okT k).w (by omega) (by decide) (by decide) hd fun r g1 r0 r1 h1 f1 => ?_
  obtain ⟨many, em, mn1, mn40⟩ := eight r0 r1
  have gl : g1.length = g.length := f1.1
  simp [em]
  refine iR1_w ?_
  simp
  refine ⟨by omega, by omega, ?_⟩
  refine wp_forL (fun i σ gg => (∃ o6 o7 o8 o9, σ = [some (.ref n), some (.int boxes), some (.int hands), some (.bl look), some (.int many), some (.ref g1.length), o6, o7, o8, o9]) ∧ ∃ xs : List D, xs.length = i ∧ Nrs xs ∧ Mk g1 gg n (B + 1 + i * 20) xs) _ 0 _ _ ⟨⟨_, _, _, _, rfl⟩, [], rfl, fun n => rfl, (Mk.init h1).mono (by omega)⟩ ?_ ?_
  · rintro i d σ gg hdi ⟨⟨o6, o7, o8, o9, rfl⟩, xs, hl, hx, mk⟩
    obtain ⟨hi, rfl⟩ := rng_get0 hdi
    have zx : szOk (xs.length + 1) = true := sz_of (by omega)
    simp
    refine (okT k).w (by omega) (by omega) (by omega) mk.hd fun bx g2 bx0 bx1 h2 f2 => ?_
    simp
    refine (okT k).w (by omega) (by omega) (by omega) h2 fun rw_ g3 rw0 rw1 h3 f3 => ?_
    have m3 := (mk.step h2 f2).step h3 f3
    simp
    rcases Nat.eq_zero_or_pos i with h0 | h0
    · refine .inl ⟨h0, ?_⟩
      refine wp_mono (rwb_w (B := B + 1 + i * 20) (by omega) (by omega) (by omega) mn1 mn40 (by omega) hx (m3.mono (by omega))) ?_
      rintro ⟨f, σ', g'⟩ ⟨rfl, ⟨o9', rfl⟩, xs', q1, q2, q3⟩
      exact ⟨⟨_, _, _, _, rfl⟩, xs', q1, q2, q3.mono (by omega)⟩
    · refine .inr ⟨h0, ?_⟩
      refine (okT k).w (by omega) (by decide) (by decide) h3 fun c g4 c0 c1 h4 f4 => ?_
      have m4 := m3.step h4 f4
      by_cases hc0 : c = 0
      · simp [hc0]
        refine wp_mono (ab_w (B := B + 1 + i * 20) (by omega) (by omega) (by omega) hh1 hh5 (by omega) hx (m4.mono (by omega))) ?_
        rintro ⟨f, σ', g'⟩ ⟨rfl, ⟨o9', rfl⟩, xs', q1, q2, q3⟩
        exact ⟨⟨_, _, _, _, rfl⟩, xs', q1, q2, q3.mono (by omega)⟩
      · simp [hc0]
        refine wp_mono (rwb_w (B := B + 1 + i * 20) (by omega) (by omega) (by omega) mn1 mn40 (by omega) hx (m4.mono (by omega))) ?_
        rintro ⟨f, σ', g'⟩ ⟨rfl, ⟨o9', rfl⟩, xs', q1, q2, q3⟩
        exact ⟨⟨_, _, _, _, rfl⟩, xs', q1, q2, q3.mono (by omega)⟩
  · rintro σ gg ⟨⟨o6, o7, o8, o9, rfl⟩, xs, hl, hx, mk⟩
    rw [rng_len] at hl mk
    have ha := mk.at_
    have hz : szOk xs.length = true := sz_of (by omega)
    simp [ha, hz]
    obtain ⟨h1', h2'⟩ := mk.fin
    rw [gl] at h1' h2'
    have F := f1.trans h2'
    have c1 := hc.fr F h1'
    exact ⟨by simp [noR, hx _], fun x hx => c1 x hx _, by rw [mk.len]; omega, q _ _ (fun n => by simp [noR, hx n]) (h1'.mono (by omega)) F⟩
theorem tabs_w {k n : Nat} {boxes hands : Int} {look : Bool} {g : G} {B : Int} {Q : List D × G → Prop} (hB : B + 10000 < 2 ^ 40) (hB0 : 0 ≤ B) (b1 : 1 ≤ boxes) (b4 : boxes ≤ 4) (hh1 : 1 ≤ hands) (hh5 : hands ≤ 5) (hd : Hd g n B) (hc : Clean g)
    (q : ∀ (ds : List D) g', ds.length ≤ 5 → Nrs ds → Hd g' n (B + 5000) → Fr n g g' → Clean g' → Q (ds, g')) :
    wp (compL (gN 0) fTrue (fCall (tab (k + 2) 38) (fCons (fVar 1) (fCons (fVar 2) (fCons (fVar 3) (fCons (fC (.bl look)) fNil))))) (rng 0 hands.toNat) [none, some (.ref n), some (.int boxes), some (.int hands)] g) Q := by
  refine wp_compL (fun i acc σ gg => (∃ o, σ = [o, some (.ref n), some (.int boxes), some (.int hands)]) ∧ Hd gg n (B + i * 1000) ∧ Fr n g gg ∧ Clean gg ∧ acc.length = i ∧ Nrs acc) _ 0 _ _ [] ⟨⟨none, rfl⟩, hd.mono (by omega), Fr.refl, hc, rfl, fun n => rfl⟩ ?_ ?_
  · rintro i d acc σ gg hdi ⟨⟨o, rfl⟩, hg, fg, hcg, hl, hn⟩
    obtain ⟨hi, rfl⟩ := rng_get0 hdi
    simp
    refine table_w (by omega) (by omega) b1 b4 hh1 hh5 hg hcg fun d g2 hd2 h2 f2 => ?_
    exact ⟨h2.mono (by omega), fg.trans f2, hcg.fr f2 h2, by omega, hn.app hd2⟩
  · rintro xs σ gg ⟨⟨o, rfl⟩, hg, fg, hcg, hl, hn⟩
    simp only [List.nil_append] at hl hn
    rw [rng_len] at hl hg
    exact q xs gg (by omega) hn (hg.mono (by omega)) fg hcg
set_option maxHeartbeats 4000000 in
theorem tables_w {k n : Nat} {h : Int} {g : G} {B : Int} {Q : D × G → Prop} (hB : B + 30000 < 2 ^ 40) (hB0 : 0 ≤ B) (hh1 : 1 ≤ h) (hh5 : h ≤ 5) (hd : Hd g n B) (hc : Clean g) (q : ∀ m g', Mn m "tables" h h → Hd g' n (B + 11000) → Fr n g g' → Q (m, g')) : wp (tab (k + 3) 39 [.ref n, .int h] g) Q := by
  refine wp_run rfl ?_
  simp [b_39]
  refine (okT (k + 1)).w (by omega) (by decide) (by decide) hd fun b g1 b0 b1 h1 f1 => ?_
  have hc1 := hc.fr f1 h1
  simp
  refine iR1_w ?_
  simp
  refine ⟨by omega, by omega, ?_⟩
  have z0 : szOk (rng 0 h.toNat).length = true := sz_of (by rw [rng_len]; omega)
  simp [z0]
  refine tabs_w (by omega) (by omega) (by omega) (by omega) hh1 hh5 h1 hc1 fun ps g2 pl pn h2 f2 hc2 => ?_
  have z1 : szOk ps.length = true := sz_of (by omega)
  simp [z1]
  refine iR1_w ?_
  simp
  refine ⟨by omega, by omega, ?_⟩
  simp [z0]
  refine tabs_w (by omega) (by omega) (by omega) (by omega) hh1 hh5 h2 hc2 fun ls g3 ll ln h3 f3 hc3 => ?_
  have z2 : szOk ls.length = true := sz_of (by omega)
  have F := (f1.trans f2).trans f3
  simp [z2]
  exact ⟨F.1, q _ _ ⟨⟨_, rfl⟩, .inr ⟨.inr (.inr (.inr (.inr rfl))), rfl⟩, hh1, hh5, fun n => by simp [noR, noRs, pn n, ln n]⟩ (h3.mono (by omega)) F⟩
end K09
namespace K09
open PySem L3 L2 Pd
section
variable {k : Nat} {g : G} {m : D} {w : Str} {h pl own : Int}
theorem okHn (hm : Mn m w h pl) : tab (k + 2) 9 [m] g = some (.int h, g) := ev_run (σ' := [some m]) rfl (by simp [b_9, num_h hm]) rfl
def oi : Option Int → D
  | none => .non
  | some v => .int v
def Sm (v : Int) : Prop := v.natAbs ≤ 999999999
theorem fig9 {v : Int} (h : Sm v) : within (.int v) (-999999999) 999999999 = true := by
  unfold Sm at h
  have h1 : (-999999999 : Int) ≤ v := by omega
  have h2 : v ≤ 999999999 := by omega
  simp [within, h1, h2]
theorem len2 {x : Str} (h : x = "deeds" ∨ x = "sums" ∨ x = "name") : tGet tbl_LENGTHS x = some (.int 2) := by rcases h with rfl | rfl | rfl <;> rfl
theorem len3 {x : Str} (h : x = "least" ∨ x = "closer") : tGet tbl_LENGTHS x = some (.int 3) := by rcases h with rfl | rfl <;> rfl
theorem gds {x : Str} (h : x = "deeds" ∨ x = "sums" ∨ x = "name" ∨ x = "least" ∨ x = "closer") : gD tbl_LENGTHS (.str x) = some true := by rcases h with rfl | rfl | rfl | rfl | rfl <;> rfl
theorem notin {w : Str} {g : G} (h1 : w ≠ "shared") (h2 : w ≠ "tables") : oIn (.str w) (.tup [.str "shared", .str "tables"]) g = some (.bl false, g) := by
  have e : inD (.str w) [.str "shared", .str "tables"] = false := by
    unfold inD
    have a1 : (Str.ofString "shared" == w) = false := by simpa using fun e => h1 e.symm
    have a2 : (Str.ofString "tables" == w) = false := by simpa using fun e => h2 e.symm
    simp [eqD, a1, a2]
  unfold oIn
  simp only [seqOf, Option.bind_some, e]
  rfl
def Fel (a b : D) : Prop := ∀ (k : Nat) (g : G), tab (k + 1) 32 [a, b] g = some (.bl true, g)
theorem sl2 {x y : D} {xs : List D} {g : G} : oSlW (.tup (x :: y :: xs)) (some 2) none g = some (.tup xs, g) := by
  have h : oSlW (.tup (x :: y :: xs)) (some ((2 : Nat) : Int)) none g = some (.tup ((x :: y :: xs).drop 2), g) := by
    simp only [oSlW]
    unfold cutD
    rw [sIx_from (by simp), HT.sIx_none]
    simp
  exact h
theorem fel_tail {x : Str} {a b : D} {r : List D} (hx : x ≠ "name") (hr : flats r = true) (hd : deps r ≤ 50) (he : eqDs r r = true) : Fel (.tup (.str x :: a :: r)) (.tup (.str x :: b :: r)) := by
  intro k g
  refine ev_run (σ' := [some (.tup (.str x :: a :: r)), some (.tup (.str x :: b :: r))]) rfl ?_ rfl
  have e : oEq (.tup r) (.tup r) g = some (.bl true, g) := by
    have f1 : flat (.tup r) = true := by simp only [flat]; exact hr
    have f2 : dep (.tup r) ≤ 60 := by simp only [dep]; omega
    unfold oEq
    rw [if_pos (by simp [f1, f2])]
    simp only [eqD, he]
  have bx : (x == x) = true := by simp
  simp [b_32, at_c, sl2, e, hx, eqD, flat, dep]
theorem fel_name {a b : Int} (h : a ≠ b) : Fel (.tup [.str "name", .int a]) (.tup [.str "name", .int b]) := by
  intro k g
  have f2 : ∀ a b : D, atI [a, b] 1 = some b := fun _ _ => rfl
  refine ev_run (σ' := [some (.tup [.str "name", .int a]), some (.tup [.str "name", .int b])]) rfl ?_ rfl
  simp [b_32, at_c, f2, eqD, flat, dep, h]
theorem slt {xs : List D} {n : Nat} {g : G} (h : n ≤ xs.length) : oSlW (.tup xs) none (some (n : Int)) g = some (.tup (xs.take n), g) := by
  simp only [oSlW]
  unfold cutD
  rw [sIx_to h, HT.sIx_none]
  simp
theorem ok31 {js : List D} (hl : js.length ≤ 100) (hf : ∀ (i j : Nat) a b, j < i → js[i]? = some a → js[j]? = some b → Fel a b) : tab (k + 2) 31 [.tup js] g = some (.bl true, g) := by
  have run : wp (tab (k + 2) 31 [.tup js] g) fun r => r = (.bl true, g) := by
    refine wp_run rfl ?_
    simp only [b_31, ev_fSeq, wp_bind, ev_fFor]
    have iE : ∀ σ g, iEnum (fVar 0) (some (D.tup js) :: σ) g = some (enumD js, g) := fun σ g => rfl
    have rp : List.replicate (3 - 1) (none : Option D) = [none, none] := rfl
    simp only [List.map_cons, List.map_nil, List.cons_append, List.nil_append, rp, iE, wp_some]
    refine wp_forL (fun _ σ gg => (∃ o1 o2, σ = [some (.tup js), o1, o2]) ∧ gg = g) _ 0 _ _ ⟨⟨_, _, rfl⟩, rfl⟩ ?_ ?_
    · rintro i d σ gg hdi ⟨⟨o1, o2, rfl⟩, rfl⟩
      have hd2 : ∃ a, js[i]? = some a ∧ d = .tup [.int (i : Nat), a] := by
        unfold enumD at hdi
        rw [List.getElem?_map, List.getElem?_zipIdx] at hdi
        cases hj : js[i]? with
        | none => rw [hj] at hdi; simp at hdi
        | some a => rw [hj] at hdi; simp at hdi; exact ⟨a, rfl, hdi.symm⟩
      obtain ⟨a, ha, rfl⟩ := hd2
      have hi := (List.getElem?_eq_some_iff.mp ha).1
      have sl := slt (g := gg) (xs := js) (n := i) (by omega)
      have cm := compL_mapI (t := gN 0) (c := fTrue) (e := fCall (tab (k + 1) 32) (fCons (fVar 1) (fCons (fVar 0) fNil))) (h := fun _ => D.bl true) (fun σ => ∃ o, σ = [o, some a]) (js.take i) [none, some a] gg ⟨_, rfl⟩ (by
        rintro b hb σ ⟨o, rfl⟩
        obtain ⟨j, hj⟩ := List.mem_iff_getElem?.mp hb
        have hj2 : j < i ∧ js[j]? = some b := by
          rw [List.getElem?_take] at hj
          split at hj
          · rename_i z; exact ⟨z, hj⟩
          · cases hj
        have := hf i j a b hj2.1 ha hj2.2 k gg
        exact ⟨[some b, some a], by simp, by simp, by simp [this], ⟨_, rfl⟩⟩)
      have bm := bools_map (fun _ => true) (js.take i)
      have zt : szOk (js.take i).length = true := sz_of (by simp; omega)
      have sb : ∀ a b c : Option D, subS [none, some 2] [a, b, c] = [none, c] := fun _ _ _ => rfl
      generalize js.take i = tk at *
      simp [sl, sb, zt, cm, bm]
    · rintro σ gg ⟨⟨o1, o2, rfl⟩, rfl⟩
      simp
  obtain ⟨r, e, h⟩ := run
  subst h
  exact e
end
end K09
namespace K09
open PySem L3 L2 Pd
theorem p12 : okPow 10 12 = true := by decide
theorem p9 : okPow 10 9 = true := by decide
theorem val_noR (m : Nat) : ∀ (n : Nat) (d : D), isVal n d = true → noR m d = true
  | n, .int i, _ => rfl
  | n + 1, .tup xs, h => by
    simp only [isVal, Bool.and_eq_true, List.all_eq_true] at h
    simp only [noR]
    exact noRs_of fun x hx => val_noR m n x (h.2 x hx)
  | 0, .tup xs, h => by simp [isVal, fig, within] at h
  | n, .non, _ => rfl
  | n, .bl _, _ => rfl
  | n, .str _, _ => rfl
  | n, .edc, _ => rfl
  | n, .lst _, h => by cases n <;> simp [isVal, fig, within] at h
  | n, .ref _, h => by cases n <;> simp [isVal, fig, within] at h
theorem vI {n : Nat} {i : Int} (h : i.natAbs ≤ 999999999999) : isVal n (.int i) = true := by
  have h1 : (-999999999999 : Int) ≤ i := by omega
  have h2 : i ≤ 999999999999 := by omega
  cases n <;> simp [isVal, fig, within, h1, h2]
set_option maxHeartbeats 4000000 in
theorem value_w {k n : Nat} {g : G} {B : Int} {Q : D × G → Prop} (hB : B + 10 < 2 ^ 40) (hB0 : 0 ≤ B) (hd : Hd g n B) (q : ∀ v g', isVal 3 v = true → Hd g' n (B + 3) → Fr n g g' → Q (v, g')) : wp (tab (k + 3) 40 [.ref n] g) Q := by
  refine wp_run rfl ?_
  simp [b_40, p12]
  refine (okT (k + 1)).w (by omega) (by decide) (by decide) hd fun a g1 a0 a1 h1 f1 => ?_
  simp
  by_cases ha : a = 0
  · simp [ha]
    refine (okT (k + 1)).w (by omega) (by decide) (by decide) h1 fun b g2 b0 b1 h2 f2 => ?_
    simp
    refine (okT (k + 1)).w (by omega) (by decide) (by decide) h2 fun c g3 c0 c1 h3 f3 => ?_
    have F := (f1.trans f2).trans f3
    have v1 := vI (n := 2) (i := b) (by omega)
    have v2 := vI (n := 1) (i := c - 1) (by omega)
    simp
    refine ⟨F.1, q _ _ ?_ (h3.mono (by omega)) F⟩
    simp [isVal, v1, v2]
    simp [isVal] at v1 v2
    exact ⟨v1, v2⟩
  · by_cases hb : a = 1
    · subst hb
      simp
      refine (okP k).w (by omega) (by simp) (by simp) h1 fun d g2 hdm h2 f2 => ?_
      have F := f1.trans f2
      simp
      refine ⟨F.1, q _ _ ?_ (h2.mono (by omega)) F⟩
      simp only [List.mem_cons, List.mem_nil_iff, or_false] at hdm
      rcases hdm with rfl | rfl | rfl | rfl | rfl
      · exact vI (by omega)
      · exact vI (by omega)
      · exact vI (by omega)
      · decide
      · decide
    · simp [ha, hb]
      refine (okT (k + 1)).w (by omega) (by decide) (by decide) h1 fun c g2 c0 c1 h2 f2 => ?_
      have F := f1.trans f2
      simp
      exact ⟨F.1, q _ _ (vI (by omega)) (h2.mono (by omega)) F⟩
def RowOk (w : Str) (pl own : Int) (row : List D) : Prop := row.length ≤ 12 ∧ (∀ d ∈ row, dB w pl own d = true) ∧ Nrs row
theorem dB_look {w : Str} {pl own : Int} : dB w pl own (.tup [.str "look"]) = true := by simp [dB]
theorem dB_put {w : Str} {pl own p : Int} {v : D} (hp : mp w pl own (.int p) = true) (hv : mv w v = true) : dB w pl own (.tup [.str "put", .int p, v]) = true := by
  have : ¬ Str.ofString "put" = Str.ofString "look" := by decide
  simp [dB, this, hp, hv]
set_option maxHeartbeats 4000000 in
theorem deeds_w {k n : Nat} {h pl own many : Int} {w : Str} {m : D} {g : G} {B : Int} {Q : D × G → Prop} (hB : B + 100 < 2 ^ 40) (hB0 : 0 ≤ B) (hm : Mn m w h pl) (hw : w ≠ "tables") (o0 : 0 ≤ own) (oh : own < h) (m0 : 0 ≤ many) (m1 : many ≤ 12) (hd : Hd g n B) (hc : Clean g) (q : ∀ row g', RowOk w pl own row → Hd g' n (B + 60) → Fr n g g' → Q (.tup [.str "deeds", .tup row], g')) : wp (tab (k + 4) 41 [.ref n, m, .int own, .int many] g) Q := by
  obtain ⟨rr, hrr⟩ := hm.fm
  refine wp_runS rfl ?_
  simp only [b_41, ev_fSeq, wp_bind, List.map_cons, List.map_nil, List.cons_append, List.nil_append]
  simp
  refine iR1_w ?_
  simp
  refine ⟨by omega, by omega, ?_⟩
  refine wp_forL (fun i σ gg => (∃ o5 o6, σ = [some (.ref n), some m, some (.int own), some (.int many), some (.ref g.length), o5, o6]) ∧ ∃ row : List D, row.length = i ∧ (∀ d ∈ row, dB w pl own d = true) ∧ Nrs row ∧ Mk g gg n (B + i * 5) row) _ 0 _ _ ⟨⟨_, _, rfl⟩, [], rfl, by simp, fun n => rfl, (Mk.init hd).mono (by omega)⟩ ?_ ?_
  · rintro i d σ gg hdi ⟨⟨o5, o6, rfl⟩, row, hl, hrow, hn, mk⟩
    obtain ⟨hi, rfl⟩ := rng_get0 hdi
    have fin : ∀ (d : D) (g4 : G), dB w pl own d = true → Nr d → Mk g g4 n (B + i * 5 + 5) row → ∃ row' : List D, row'.length = i + 1 ∧ (∀ d ∈ row', dB w pl own d = true) ∧ Nrs row' ∧ Mk g (g4.set g.length (row ++ [d])) n (B + (i + 1) * 5) row' := by
      intro d g4 hd' hn' m4
      refine ⟨row ++ [d], by simp; omega, fun x hx => ?_, hn.app hn', m4.put.mono (by omega)⟩
      rcases List.mem_append.mp hx with hx | hx
      · exact hrow x hx
      · simp at hx; subst hx; exact hd'
    have zr : szOk (row.length + 1) = true := sz_of (by omega)
    simp
    refine (okT (k + 2)).w (by omega) (by decide) (by decide) mk.hd fun a g1 a0 a1 h1 f1 => ?_
    have m1' := mk.step h1 f1
    simp
    by_cases h3 : a < 3
    · simp [h3]
      refine .inr ?_
      have put : ∀ (x : Int) (g3 : G), mp w pl own (.int x) = true → Mk g g3 n (B + i * 5 + 2) row → wp (tab (k + 3) 40 [D.ref n] g3) fun r => ∃ row' : List D, row'.length = i + 1 ∧ (∀ d ∈ row', dB w pl own d = true) ∧ Nrs row' ∧ r.2[g.length]? = some row ∧ Mk g (r.2.set g.length (row ++ [D.tup [.str "put", .int x, r.1]])) n (B + (i + 1) * 5) row' := by
        intro x g3 hx m3
        refine value_w (by omega) (by omega) m3.hd fun v g4 hv h4 f4 => ?_
        have m4 := m3.step h4 f4
        have hmv : mv w v = true := by unfold mv; rw [if_neg hw]; exact hv
        obtain ⟨row', r1, r2, r3, r4⟩ := fin (.tup [.str "put", .int x, v]) g4 (dB_put hx hmv) (fun q => by simp [noR, noRs, val_noR q 3 v hv]) (m4.mono (by omega))
        exact ⟨row', r1, r2, r3, m4.at_, r4⟩
      have sq : seqOf m g1 = some (.str w :: .int h :: rr) := by rw [hrr]; rfl
      rcases hm.wd with ⟨hs, r, e⟩ | ⟨hs, e⟩
      · subst hs
        have sq2 : seqOf m g1 = some (.str "shared" :: .int h :: .int pl :: r) := by rw [e]; rfl
        have p1 := hm.p1
        have p5 := hm.p5
        simp [sq2, at_c, at_2]
        refine (okT (k + 2)).w (by omega) (by omega) (by omega) m1'.hd fun c g3 c0 c1 h3' f3 => ?_
        have m3 := m1'.step h3' f3
        have l3 := m3.len
        have hmp : mp "shared" pl own (.int c) = true := by
          have : c ≤ pl - 1 := by omega
          simp [mp, c0, this]
        obtain ⟨⟨v, g4⟩, e4, row', r1, r2, r3, r4, r5⟩ := put c g3 hmp (m3.mono (by omega))
        dsimp only at r4 r5
        simp [l3, e4, r4, zr]
        exact ⟨row', r1, r2, r3, r5⟩
      · have hne : ¬ w = Str.ofString "shared" := by rcases hs with rfl | rfl | rfl | rfl | rfl <;> decide
        have l3 := m1'.len
        have hmp : mp w pl own (.int own) = true := by
          have : own ≤ pl - 1 := by omega
          simp [mp, o0, this]
        obtain ⟨⟨v, g4⟩, e4, row', r1, r2, r3, r4, r5⟩ := put own g1 hmp (m1'.mono (by omega))
        dsimp only at r4 r5
        simp [sq, at_c, hne, l3, e4, r4, zr]
        exact ⟨row', r1, r2, r3, r5⟩
    · have l1 := m1'.len
      have at1 : ∀ h, g1[g.length]'h = row := fun h => by
        have := m1'.at_
        rw [List.getElem?_eq_getElem h] at this
        exact Option.some.inj this
      simp [h3, l1, at1, zr]
      exact ⟨by omega, fin (.tup [.str "look"]) g1 dB_look (fun q => by simp [noR, noRs]) (m1'.mono (by omega))⟩
  · rintro σ gg ⟨⟨o5, o6, rfl⟩, row, hl, hrow, hn, mk⟩
    rw [rng_len] at hl mk
    have ha := mk.at_
    have hz : szOk row.length = true := sz_of (by omega)
    simp [ha, hz]
    obtain ⟨h1, h2⟩ := mk.fin
    have c1 := hc.fr h2 h1
    exact ⟨by simp [noR, noRs, hn _], fun x hx => c1 x hx _, by rw [mk.len]; omega, q row _ ⟨by omega, hrow, hn⟩ (h1.mono (by omega)) h2⟩
end K09
namespace K09
open PySem L3 L2 Pd
def KJ (way wt rd : Int) (q : Nat) (j : D) : Prop :=
  (way = 0 ∧ ∃ is : List (Option Int), is.length ≤ 8 ∧ (∀ v, some v ∈ is → Sm v) ∧ j = .tup [.str "sums", .tup (is.map oi)]) ∨
  (way = 1 ∧ ∃ v : Int, 8 * (q : Int) - 20 ≤ v ∧ v < 8 * (q : Int) - 12 ∧ j = .tup [.str "name", .int v]) ∨
  (way = 2 ∧ ∃ v : Int, Sm v ∧ j = .tup [.str "least", .int v, .int wt]) ∨
  (way = 3 ∧ ∃ v : Int, Sm v ∧ j = .tup [.str "closer", .int v, .int rd])
theorem is_noR {m : Nat} (is : List (Option Int)) : noRs m (is.map oi) = true := noRs_of fun x hx => by
  rw [List.mem_map] at hx
  obtain ⟨o, _, rfl⟩ := hx
  cases o <;> rfl
theorem KJ.nr {way wt rd : Int} {q : Nat} {j : D} (h : KJ way wt rd q j) : Nr j := by
  intro n
  rcases h with ⟨_, is, _, _, rfl⟩ | ⟨_, v, _, _, rfl⟩ | ⟨_, v, _, rfl⟩ | ⟨_, v, _, rfl⟩
  · simp [noR, noRs, is_noR]
  all_goals simp [noR, noRs]
theorem KJ.fel {way wt rd : Int} {p q : Nat} {a b : D} (hpq : q < p) (ha : KJ way wt rd p a) (hb : KJ way wt rd q b) : Fel a b := by
  rcases ha with ⟨e, is, h1, h2, rfl⟩ | ⟨e, v, h1, h2, rfl⟩ | ⟨e, v, h1, rfl⟩ | ⟨e, v, h1, rfl⟩
  · rcases hb with ⟨_, is', _, _, rfl⟩ | ⟨e', _⟩ | ⟨e', _⟩ | ⟨e', _⟩
    · exact fel_tail (r := []) (by decide) rfl (by simp [deps]) rfl
    all_goals (exfalso; omega)
  · rcases hb with ⟨e', _⟩ | ⟨_, v', h1', h2', rfl⟩ | ⟨e', _⟩ | ⟨e', _⟩
    · exfalso; omega
    · exact fel_name (by omega)
    all_goals (exfalso; omega)
  · rcases hb with ⟨e', _⟩ | ⟨e', _⟩ | ⟨_, v', h1', rfl⟩ | ⟨e', _⟩
    · exfalso; omega
    · exfalso; omega
    · exact fel_tail (r := [.int wt]) (by decide) rfl (by simp [deps, dep]) (by simp [eqDs, eqD])
    · exfalso; omega
  · rcases hb with ⟨e', _⟩ | ⟨e', _⟩ | ⟨e', _⟩ | ⟨_, v', h1', rfl⟩
    · exfalso; omega
    · exfalso; omega
    · exfalso; omega
    · exact fel_tail (r := [.int rd]) (by decide) rfl (by simp [deps, dep]) (by simp [eqDs, eqD])
theorem four {a b c d : D} {r : Int} (h0 : 0 ≤ r) (h1 : r < 4) : ∃ x, atI [a, b, c, d] r = some x ∧ ((r = 0 ∧ x = a) ∨ (r = 1 ∧ x = b) ∨ (r = 2 ∧ x = c) ∨ (r = 3 ∧ x = d)) := by
  have : r = 0 ∨ r = 1 ∨ r = 2 ∨ r = 3 := by omega
  rcases this with rfl | rfl | rfl | rfl
  · exact ⟨a, rfl, .inl ⟨rfl, rfl⟩⟩
  · exact ⟨b, rfl, .inr (.inl ⟨rfl, rfl⟩)⟩
  · exact ⟨c, rfl, .inr (.inr (.inl ⟨rfl, rfl⟩))⟩
  · exact ⟨d, rfl, .inr (.inr (.inr ⟨rfl, rfl⟩))⟩
theorem m8 {i : Int} : okMul 8 i = true := okMul_l (by decide) (by decide)
set_option maxHeartbeats 8000000 in
theorem built_w {k n : Nat} {h : Int} {g : G} {B : Int} {Q : D × G → Prop} (hB : B + 500 < 2 ^ 40) (hB0 : 0 ≤ B) (hh1 : 1 ≤ h) (hh5 : h ≤ 5) (hd : Hd g n B) (hc : Clean g)
    (q : ∀ (l : List D) (way wt rd : Int) g', (l.length : Int) = h → 1 ≤ wt → wt ≤ h → 1 ≤ rd → rd ≤ 6 → (∀ (q : Nat) j, l[q]? = some j → KJ way wt rd q j) → Hd g' n (B + 300) → Fr n g g' → Q (.tup l, g')) : wp (tab (k + 3) 42 [.ref n, .int h] g) Q := by
  refine wp_runS rfl ?_
  simp only [b_42, ev_fSeq, wp_bind, List.map_cons, List.map_nil, List.cons_append, List.nil_append]
  simp
  refine (okT (k + 1)).w (by omega) (by decide) (by decide) hd fun way g1 y0 y1 h1 f1 => ?_
  simp
  refine (okT (k + 1)).w (by omega) (by omega) (by omega) h1 fun wt g2 wt0 wt1 h2 f2 => ?_
  simp
  refine (okT (k + 1)).w (by omega) (by decide) (by decide) h2 fun rd g3 rd0 rd1 h3 f3 => ?_
  have F3 := (f1.trans f2).trans f3
  simp [p9]
  refine iR1_w ?_
  simp
  refine ⟨by omega, by omega, ?_⟩
  have gl3 : g3.length = g.length := F3.1
  refine wp_forL (fun i σ gg => (∃ o6 o7 o8 o9, σ = [some (.ref n), some (.int h), some (.int way), some (.int (1 + wt)), some (.int (1 + rd)), some (.ref g3.length), o6, o7, o8, o9]) ∧ ∃ l : List D, l.length = i ∧ (∀ (q : Nat) j, l[q]? = some j → KJ way (1 + wt) (1 + rd) q j) ∧ Nrs l ∧ Mk g3 gg n (B + 3 + i * 20) l) _ 0 _ _ ⟨⟨_, _, _, _, rfl⟩, [], rfl, by simp, fun n => rfl, (Mk.init h3).mono (by omega)⟩ ?_ ?_
  · rintro i d σ gg hdi ⟨⟨o6, o7, o8, o9, rfl⟩, l, hl, hj, hn, mk⟩
    obtain ⟨hi, rfl⟩ := rng_get0 hdi
    simp
    refine (okT (k + 1)).w (by omega) (by decide) (by decide) mk.hd fun a g4 a0 a1 h4 f4 => ?_
    simp
    refine (okT (k + 1)).w (by omega) (by decide) (by decide) h4 fun a' g5 a0' a1' h5 f5 => ?_
    simp [p9]
    refine (okP k).w (by omega) (by simp) (by simp) h5 fun nd g6 hnd h6 f6 => ?_
    have m6 := ((mk.step h4 f4).step h5 f5).step h6 f6
    have : ∃ num : Int, nd = .int num ∧ Sm num := by
      simp only [List.mem_cons, List.mem_nil_iff, or_false] at hnd
      rcases hnd with rfl | rfl | rfl | rfl
      all_goals exact ⟨_, rfl, by unfold Sm; omega⟩
    obtain ⟨num, rfl, hnum⟩ := this
    simp
    refine iR1_w ?_
    simp
    refine (okT (k + 1)).w (by omega) (by decide) (by decide) h6 fun b g7 b0 b1 h7 f7 => ?_
    have m7 := m6.step h7 f7
    simp
    refine ⟨by omega, by omega, ?_⟩
    have z0 : szOk (rng 0 b.toNat).length = true := sz_of (by rw [rng_len]; omega)
    simp [z0]
    refine wp_compL (fun i' acc σ gg => (∃ o, σ = [o, some (.ref n)]) ∧ ∃ is : List (Option Int), acc = is.map oi ∧ is.length = i' ∧ (∀ v, some v ∈ is → Sm v) ∧ Mk g3 gg n (B + 3 + i * 20 + 4 + i') l) _ 0 _ _ [] ⟨⟨none, rfl⟩, [], rfl, rfl, by simp, m7.mono (by omega)⟩ ?_ ?_
    · rintro j d acc σ g8 hdj ⟨⟨o, rfl⟩, is, rfl, hil, his, m8'⟩
      obtain ⟨hj', rfl⟩ := rng_get0 hdj
      simp [p9]
      refine (okP k).w (by omega) (by simp) (by simp) m8'.hd fun d g9 hdm h9 f9 => ?_
      have : ∃ o : Option Int, d = oi o ∧ ∀ v, o = some v → Sm v := by
        simp only [List.mem_cons, List.mem_nil_iff, or_false] at hdm
        rcases hdm with rfl | rfl | rfl | rfl | rfl | rfl | rfl
        · exact ⟨none, rfl, fun v e => by cases e⟩
        · exact ⟨none, rfl, fun v e => by cases e⟩
        all_goals exact ⟨some _, rfl, fun v e => by cases e; unfold Sm; omega⟩
      obtain ⟨o', rfl, ho'⟩ := this
      refine ⟨is ++ [o'], by simp, by simp; omega, fun v hv => ?_, (m8'.step h9 f9).mono (by omega)⟩
      rcases List.mem_append.mp hv with hv | hv
      · exact his v hv
      · simp at hv; exact ho' v hv.symm
    · rintro xs σ g8 ⟨⟨o, rfl⟩, is, e, hil, his, m8'⟩
      simp only [List.nil_append] at e
      subst e
      rw [rng_len] at hil m8'
      have z1 : szOk is.length = true := sz_of (by omega)
      have zl : szOk (l.length + 1) = true := sz_of (by omega)
      simp [m8]
      refine (okT (k + 1)).w (by omega) (by decide) (by decide) m8'.hd fun t g9 t0 t1 h9 f9 => ?_
      have m9 := m8'.step h9 f9
      have l9 := m9.len
      obtain ⟨x, ex, hx⟩ := four (a := .tup [.str "sums", .tup (is.map oi)]) (b := .tup [.str "name", .int (8 * (i : Int) + t - 20)]) (c := .tup [.str "least", .int num, .int (1 + wt)]) (d := .tup [.str "closer", .int num, .int (1 + rd)]) y0 y1
      have kj : KJ way (1 + wt) (1 + rd) i x := by
        rcases hx with ⟨e, rfl⟩ | ⟨e, rfl⟩ | ⟨e, rfl⟩ | ⟨e, rfl⟩
        · exact .inl ⟨e, is, by omega, his, rfl⟩
        · exact .inr (.inl ⟨e, _, by omega, by omega, rfl⟩)
        · exact .inr (.inr (.inl ⟨e, _, hnum, rfl⟩))
        · exact .inr (.inr (.inr ⟨e, _, hnum, rfl⟩))
      have at9 : ∀ h, g9[g3.length]'h = l := fun h => by
        have := m9.at_
        rw [List.getElem?_eq_getElem h] at this
        exact Option.some.inj this
      simp [l9, z1, ex, at9, zl]
      refine ⟨l ++ [x], by simp; omega, fun p j' hp => ?_, hn.app kj.nr, m9.put.mono (by omega)⟩
      by_cases hpl : p < l.length
      · rw [List.getElem?_append_left hpl] at hp
        exact hj p j' hp
      · rw [List.getElem?_append_right (by omega)] at hp
        have : p - l.length = 0 := by
          have := (List.getElem?_eq_some_iff.mp hp).1
          simp at this
          omega
        rw [this] at hp
        simp at hp
        subst hp
        have : p = i := by omega
        subst this
        exact kj
  · rintro σ gg ⟨⟨o6, o7, o8, o9, rfl⟩, l, hl, hj, hn, mk⟩
    rw [rng_len] at hl mk
    have ha := mk.at_
    have hz : szOk l.length = true := sz_of (by omega)
    simp [ha, hz]
    obtain ⟨h1', h2'⟩ := mk.fin
    rw [gl3] at h1' h2'
    have F := F3.trans h2'
    have c1 := hc.fr F h1'
    exact ⟨by simp [noR, hn _], fun x hx => c1 x hx _, by rw [mk.len]; omega, q l way (1 + wt) (1 + rd) _ (by omega) (by omega) (by omega) (by omega) (by omega) hj (h1'.mono (by omega)) F⟩
end K09
namespace K09
open PySem L3 L2 Pd
def rowB (w : Str) (pl own : Int) (t : D) : Bool := match t with
  | .tup row => decide (row.length ≤ 12) && row.all (dB w pl own)
  | _ => false
def itmB (t : D) : Bool := match t with
  | .tup is => decide (is.length ≤ 8) && is.all fun d => isNon d || within d (-999999999) 999999999
  | _ => false
def okw (w : Str) : Bool := decide (w ≠ "shared") && decide (w ≠ "tables")
def fig (v : D) : Bool := within v (-999999999) 999999999
def jobB (w : Str) (h pl own : Int) (j : D) : Bool := match j with
  | .tup [.str x, t] => if x = "deeds" then rowB w pl own t else if x = "sums" then okw w && itmB t else if x = "name" then okw w && fig t else false
  | .tup [.str x, v, u] => if x = "least" then okw w && (fig v && within u 1 h) else if x = "closer" then okw w && (fig v && within u 1 6) else false
  | _ => false
section
variable {k : Nat} {g : G} {m : D} {w : Str} {h pl own : Int}
theorem ok29t (hm : Mn m w h pl) (t : D) : tab (k + 11) 29 [m, .int own, t] g = some (.bl (rowB w pl own t), g) := by
  have e4 := okL (k + 9) t 0 12 g
  refine ev_run (σ' := [some m, some (.int own), some t]) rfl ?_ rfl
  cases t with
  | tup row =>
    by_cases hl : row.length ≤ 12
    · have tl : tupLen (.tup row) 0 12 = true := by
        simp [tupLen]; omega
      rw [tl] at e4
      have cm := compL_mapI (t := gN 0) (c := fTrue) (e := fCall (tab (k + 10) 18) (fCons (fVar 1) (fCons (fVar 2) (fCons (fVar 0) fNil)))) (h := fun d => D.bl (dB w pl own d)) (fun σ => ∃ o, σ = [o, some m, some (.int own)]) row [none, some m, some (.int own)] g ⟨_, rfl⟩ (by
        rintro d hd σ ⟨o, rfl⟩
        have eD := okD (k := k) (g := g) (own := own) hm d
        exact ⟨[some d, some m, some (.int own)], by simp, by simp, by simp [eD], ⟨_, rfl⟩⟩)
      have bm := bools_map (dB w pl own) row
      have hz : szOk row.length = true := sz_of (by omega)
      have al : (row.map (dB w pl own)).all id = row.all (dB w pl own) := by rw [List.all_map]; rfl
      have sb : ∀ a b c : Option D, subS [none, some 0, some 1] [a, b, c] = [none, a, b] := fun _ _ _ => rfl
      have hr : rowB w pl own (.tup row) = row.all (dB w pl own) := by simp [rowB, hl]
      rw [hr, ← al]
      generalize row.map (dB w pl own) = bs at *
      simp [b_29, e4, hz, sb, cm, bm]
    · have tl : tupLen (.tup row) 0 12 = false := by
        have : ¬ ((row.length : Int) ≤ 12) := by omega
        simp [tupLen]; omega
      rw [tl] at e4
      simp [b_29, e4, rowB, hl]
  | _ => simp [b_29, e4, tupLen, rowB]
theorem ok30t (t : D) : tab (k + 4) 30 [t] g = some (.bl (itmB t), g) := by
  have e4 := okL (k + 2) t 0 8 g
  refine ev_run (σ' := [some t]) rfl ?_ rfl
  cases t with
  | tup is =>
    by_cases hl : is.length ≤ 8
    · have tl : tupLen (.tup is) 0 8 = true := by
        simp [tupLen]; omega
      rw [tl] at e4
      have cm := compL_mapI (t := gN 0) (c := fTrue) (e := fOrV (fOp oIs (fVar 0) (fC .non)) (fCall (tab (k + 3) 3) (fCons (fVar 0) (fCons (fC (.int 999999999)) fNil)))) (h := fun d => D.bl (isNon d || within d (-999999999) 999999999)) (fun σ => ∃ o, σ = [o]) is [none] g ⟨_, rfl⟩ (by
        rintro d hd σ ⟨o, rfl⟩
        have e3 := okF k d 999999999 g
        refine ⟨[some d], by simp, by simp, ?_, ⟨_, rfl⟩⟩
        cases hd : isNon d <;> simp [e3, hd])
      have bm := bools_map (fun d => isNon d || within d (-999999999) 999999999) is
      have hz : szOk is.length = true := sz_of (by omega)
      have al : (is.map fun d => isNon d || within d (-999999999) 999999999).all id = is.all fun d => isNon d || within d (-999999999) 999999999 := by rw [List.all_map]; rfl
      have sb : ∀ σ : Sg, subS [none] σ = [none] := fun _ => rfl
      have hr : itmB (.tup is) = is.all fun d => isNon d || within d (-999999999) 999999999 := by simp [itmB, hl]
      rw [hr, ← al]
      generalize (is.map fun d => isNon d || within d (-999999999) 999999999) = bs at *
      simp [b_30, e4, hz, sb, cm, bm]
    · have tl : tupLen (.tup is) 0 8 = false := by
        simp [tupLen]; omega
      rw [tl] at e4
      simp [b_30, e4, itmB, hl]
  | _ => simp [b_30, e4, tupLen, itmB]
theorem inw {w : Str} {g : G} : oIn (.str w) (.tup [.str "shared", .str "tables"]) g = some (.bl (!okw w), g) := by
  by_cases h1 : w = "shared"
  · subst h1; rfl
  · by_cases h2 : w = "tables"
    · subst h2; rfl
    · rw [notin h1 h2]; simp [okw, h1, h2]
theorem jobB_word {j : D} (h1 : wordD j = .non) : jobB w h pl own j = false := by
  unfold jobB
  split
  · cases h1
  · cases h1
  · rfl
theorem gl {x : Str} : gD tbl_LENGTHS (.str x) = some (decide (x = "deeds" ∨ x = "sums" ∨ x = "name" ∨ x = "least" ∨ x = "closer")) := by
  by_cases h : x = "deeds" ∨ x = "sums" ∨ x = "name" ∨ x = "least" ∨ x = "closer"
  · rw [gds h, decide_eq_true h]
  · rw [decide_eq_false h]
    simp only [not_or] at h
    obtain ⟨h1, h2, h3, h4, h5⟩ := h
    simp only [gD, tGet, tbl_LENGTHS]
    have a1 : ¬ (Str.ofString "deeds" = x) := fun e => h1 e.symm
    have a2 : ¬ (Str.ofString "sums" = x) := fun e => h2 e.symm
    have a3 : ¬ (Str.ofString "name" = x) := fun e => h3 e.symm
    have a4 : ¬ (Str.ofString "least" = x) := fun e => h4 e.symm
    have a5 : ¬ (Str.ofString "closer" = x) := fun e => h5 e.symm
    simp [List.find?, a1, a2, a3, a4, a5]
theorem len_two {xs : List D} (h : xs.length = 2) : ∃ a b, xs = [a, b] := by
  match xs, h with
  | [a, b], _ => exact ⟨a, b, rfl⟩
theorem jobB_2 {x : Str} {xs : List D} (hx : x = "deeds" ∨ x = "sums" ∨ x = "name") (hl : ¬ xs.length = 1) : jobB w h pl own (.tup (.str x :: xs)) = false := by
  have h1 : ¬ x = "least" := by rcases hx with rfl | rfl | rfl <;> decide
  have h2 : ¬ x = "closer" := by rcases hx with rfl | rfl | rfl <;> decide
  match xs, hl with
  | [], _ => rfl
  | [a], hl => exact absurd rfl hl
  | [a, b], _ => simp [jobB, h1, h2]
  | a :: b :: c :: d, _ => rfl
theorem jobB_3 {x : Str} {xs : List D} (hx : x = "least" ∨ x = "closer") (hl : ¬ xs.length = 2) : jobB w h pl own (.tup (.str x :: xs)) = false := by
  have h1 : ¬ x = "deeds" := by rcases hx with rfl | rfl <;> decide
  have h2 : ¬ x = "sums" := by rcases hx with rfl | rfl <;> decide
  have h3 : ¬ x = "name" := by rcases hx with rfl | rfl <;> decide
  match xs, hl with
  | [], _ => rfl
  | [a], _ => simp [jobB, h1, h2, h3]
  | [a, b], hl => exact absurd rfl hl
  | a :: b :: c :: d, _ => rfl
theorem ok28t (hm : Mn m w h pl) (j : D) : tab (k + 12) 28 [m, .int own, j] g = some (.bl (jobB w h pl own j), g) := by
  have e5 := ok5 (k := k + 10) (g := g) j
  obtain ⟨r, hr⟩ := hm.fm
  have sq : seqOf m g = some (.str w :: .int h :: r) := by rw [hr]; rfl
  refine ev_run (σ' := [some m, some (.int own), some j, some (wordD j)]) rfl ?_ rfl
  have none_ : wordD j = .non → b_28 (tab (k + 11)) [some m, some (.int own), some j, none] g = some (.rt (.bl (jobB w h pl own j)), [some m, some (.int own), some j, some (wordD j)], g) := by
    intro h1
    rw [jobB_word h1, h1]
    rw [h1] at e5
    have gn : gD tbl_LENGTHS .non = some false := rfl
    simp [b_28, e5, gn]
  cases j with
  | tup xs =>
    cases xs with
    | nil => exact none_ rfl
    | cons x xs =>
      cases x with
      | str x =>
        have e5' : tab (k + 11) 5 [.tup (.str x :: xs)] g = some (.str x, g) := e5
        have wd : wordD (.tup (.str x :: xs)) = .str x := rfl
        rw [wd]
        have gx := gl (x := x)
        have inw' := inw (w := w) (g := g)
        have n1 : ¬ Str.ofString "sums" = Str.ofString "deeds" := by decide
        have n2 : ¬ Str.ofString "name" = Str.ofString "deeds" := by decide
        have n3 : ¬ Str.ofString "name" = Str.ofString "sums" := by decide
        have n4 : ¬ Str.ofString "least" = Str.ofString "deeds" := by decide
        have n5 : ¬ Str.ofString "least" = Str.ofString "sums" := by decide
        have n6 : ¬ Str.ofString "closer" = Str.ofString "deeds" := by decide
        have n7 : ¬ Str.ofString "closer" = Str.ofString "sums" := by decide
        have n8 : ¬ Str.ofString "closer" = Str.ofString "least" := by decide
        have n9 : ¬ Str.ofString "closer" = Str.ofString "name" := by decide
        have n10 : ¬ Str.ofString "name" = Str.ofString "least" := by decide
        have n11 : ¬ Str.ofString "least" = Str.ofString "name" := by decide
        have f2 : ∀ a b : D, atI [a, b] 1 = some b := fun _ _ => rfl
        by_cases hx : x = "deeds" ∨ x = "sums" ∨ x = "name" ∨ x = "least" ∨ x = "closer"
        · rw [decide_eq_true hx] at gx
          rcases hx with rfl | rfl | rfl | rfl | rfl
          · have g2 := len2 (x := "deeds") (.inl rfl)
            by_cases hl : xs.length = 1
            · obtain ⟨t, rfl⟩ := List.length_eq_one_iff.mp hl
              have e29 := ok29t (k := k) (g := g) (own := own) hm t
              simp [b_28, e5', fDNotInN, gx, g2, eqD, flat, dep, f2, e29, jobB]
            · have hb : ¬ ((xs.length : Int) + 1 = 2) := by omega
              have hj : jobB w h pl own (.tup (.str "deeds" :: xs)) = false := jobB_2 (.inl rfl) hl
              rw [hj]
              simp [b_28, e5', fDNotInN, gx, g2, eqD, flat, dep, hb]
          · have g2 := len2 (x := "sums") (.inr (.inl rfl))
            by_cases hl : xs.length = 1
            · obtain ⟨t, rfl⟩ := List.length_eq_one_iff.mp hl
              have e30 := ok30t (k := k + 7) (g := g) t
              cases hw : okw w <;> simp [-ev_oIn, b_28, e5', fDNotInN, gx, g2, eqD, flat, dep, f2, n1, sq, at_c, inw', hw, e30, jobB]
            · have hb : ¬ ((xs.length : Int) + 1 = 2) := by omega
              have hj : jobB w h pl own (.tup (.str "sums" :: xs)) = false := jobB_2 (.inr (.inl rfl)) hl
              rw [hj]
              simp [b_28, e5', fDNotInN, gx, g2, eqD, flat, dep, hb]
          · have g2 := len2 (x := "name") (.inr (.inr rfl))
            by_cases hl : xs.length = 1
            · obtain ⟨t, rfl⟩ := List.length_eq_one_iff.mp hl
              have e3 := okF (k + 8) t 999999999 g
              have ef : within t (-999999999) 999999999 = fig t := rfl
              rw [ef] at e3
              cases hw : okw w <;> cases hf : fig t <;> simp [-ev_oIn, b_28, e5', fDNotInN, gx, g2, eqD, flat, dep, f2, n2, n3, n10, sq, at_c, inw', hw, e3, hf, jobB]
            · have hb : ¬ ((xs.length : Int) + 1 = 2) := by omega
              have hj : jobB w h pl own (.tup (.str "name" :: xs)) = false := jobB_2 (.inr (.inr rfl)) hl
              rw [hj]
              simp [b_28, e5', fDNotInN, gx, g2, eqD, flat, dep, hb]
          · have g2 := len3 (x := "least") (.inl rfl)
            by_cases hl : xs.length = 2
            · obtain ⟨v, u, rfl⟩ := len_two hl
              have e3 := okF (k + 8) v 999999999 g
              have ef : within v (-999999999) 999999999 = fig v := rfl
              rw [ef] at e3
              have e9 := okHn (k := k + 9) (g := g) hm
              have e2 := okI (k + 9) u 1 h g
              cases hw : okw w <;> cases hf : fig v <;> simp [-ev_oIn, b_28, e5', fDNotInN, gx, g2, eqD, flat, dep, at_1, at_2, n4, n5, sq, at_c, inw', hw, e3, hf, e9, e2, jobB]
            · have hb : ¬ ((xs.length : Int) + 1 = 3) := by omega
              have hj : jobB w h pl own (.tup (.str "least" :: xs)) = false := jobB_3 (.inl rfl) hl
              rw [hj]
              simp [b_28, e5', fDNotInN, gx, g2, eqD, flat, dep, hb]
          · have g2 := len3 (x := "closer") (.inr rfl)
            by_cases hl : xs.length = 2
            · obtain ⟨v, u, rfl⟩ := len_two hl
              have e3 := okF (k + 8) v 999999999 g
              have ef : within v (-999999999) 999999999 = fig v := rfl
              rw [ef] at e3
              have e2 := okI (k + 9) u 1 6 g
              cases hw : okw w <;> cases hf : fig v <;> simp [-ev_oIn, b_28, e5', fDNotInN, gx, g2, eqD, flat, dep, at_1, at_2, n6, n7, n8, n9, sq, at_c, inw', hw, e3, hf, e2, jobB]
            · have hb : ¬ ((xs.length : Int) + 1 = 3) := by omega
              have hj : jobB w h pl own (.tup (.str "closer" :: xs)) = false := jobB_3 (.inr rfl) hl
              rw [hj]
              simp [b_28, e5', fDNotInN, gx, g2, eqD, flat, dep, hb]
        · rw [decide_eq_false hx] at gx
          simp only [not_or] at hx
          obtain ⟨h1, h2, h3, h4, h5⟩ := hx
          have hj : jobB w h pl own (.tup (.str x :: xs)) = false := by
            match xs with
            | [] => rfl
            | [a] => simp [jobB, h1, h2, h3]
            | [a, b] => simp [jobB, h4, h5]
            | a :: b :: c :: d => rfl
          rw [hj]
          simp [b_28, e5', fDNotInN, gx]
      | _ => exact none_ rfl
  | _ => exact none_ rfl
end
end K09
namespace K09
open PySem L3 L2 Pd
def FelV (a b : D) (v : Bool) : Prop := ∀ (k : Nat) (g : G), tab (k + 1) 32 [a, b] g = some (.bl v, g)
section
variable {k : Nat} {g : G} {m : D} {w : Str} {h pl own : Int}
theorem okJ_len (hm : Mn m w h pl) {t : D} (ht : tupLen t h h = false) : tab (k + 13) 27 [m, t] g = some (.bl false, g) := by
  have e9 := okHn (k := k + 10) (g := g) hm
  have e4 := okL (k + 11) t h h g
  rw [ht] at e4
  refine ev_run (σ' := [some m, some t, some (.int h)]) rfl ?_ rfl
  simp [b_27, e9, e4]
theorem comp28 (hm : Mn m w h pl) : ∀ (l : List D) (i : Nat) (o0 o1 : Option D), compL (gT 2 (gConss (gN 0) (gConss (gN 1) gNils))) fTrue (fCall (tab (k + 12) 28) (fCons (fVar 2) (fCons (fVar 0) (fCons (fVar 1) fNil)))) ((l.zipIdx i).map fun p => D.tup [.int (p.2 : Nat), p.1]) [o0, o1, some m] g = some (((l.zipIdx i).map fun p => jobB w h pl (p.2 : Nat) p.1).map .bl, g)
  | [], i, o0, o1 => rfl
  | a :: l, i, o0, o1 => by
    have e28 := ok28t (k := k) (g := g) (own := (i : Nat)) hm a
    have := comp28 hm l (i + 1) (some (.int (i : Nat))) (some a)
    simp only [List.map_map] at this
    simp [compL, e28, this]
theorem bools_bl : ∀ bs : List Bool, bools (bs.map D.bl) = some bs
  | [] => rfl
  | b :: bs => by simp [bools, bools_bl bs]
theorem okJ_t (hm : Mn m w h pl) {js : List D} (hl : (js.length : Int) = h) (h9 : h ≤ 9) {v : Bool} (e31 : tab (k + 12) 31 [.tup js] g = some (.bl v, g) ∨ ((js.zipIdx 0).all fun p => jobB w h pl (p.2 : Nat) p.1) = false) :
    tab (k + 13) 27 [m, .tup js] g = some (.bl (((js.zipIdx 0).all fun p => jobB w h pl (p.2 : Nat) p.1) && v), g) := by
  have e9 := okHn (k := k + 10) (g := g) hm
  have e4 := okL (k + 11) (.tup js) h h g
  have tl : tupLen (.tup js) h h = true := by simp [tupLen, hl]
  rw [tl] at e4
  have c1 := comp28 (k := k) (g := g) hm js 0 none none
  have ee : enumD js = (js.zipIdx 0).map fun p => D.tup [.int (p.2 : Nat), p.1] := rfl
  have hz : szOk (enumD js).length = true := sz_of (by simp [enumD]; omega)
  have bm' := bools_bl ((js.zipIdx 0).map fun p => jobB w h pl (p.2 : Nat) p.1)
  have al : ((js.zipIdx 0).map fun p => jobB w h pl (p.2 : Nat) p.1).all id = (js.zipIdx 0).all fun p => jobB w h pl (p.2 : Nat) p.1 := by rw [List.all_map]; rfl
  have sb : ∀ a b c : Option D, subS [none, none, some 0] [a, b, c] = [none, none, a] := fun _ _ _ => rfl
  rw [ee] at hz
  generalize hq : (js.zipIdx 0).map (fun p => D.tup [.int (p.2 : Nat), p.1]) = en at *
  generalize ((js.zipIdx 0).map fun p => jobB w h pl (p.2 : Nat) p.1) = bs at *
  generalize ((js.zipIdx 0).all fun p => jobB w h pl (p.2 : Nat) p.1) = u at *
  refine ev_run (σ' := [some m, some (.tup js), some (.int h)]) rfl ?_ rfl
  cases u with
  | false => simp [b_27, e9, e4, ee, hz, sb, c1, bm', al]
  | true =>
    rcases e31 with e31 | e31
    · simp [b_27, e9, e4, ee, hz, sb, c1, bm', al, e31]
    · cases e31
theorem okJ_bad (hm : Mn m w h pl) {js : List D} (hl : (js.length : Int) = h) (h9 : h ≤ 9) {i : Nat} {j : D} (hi : js[i]? = some j) (hj : jobB w h pl (i : Int) j = false) : tab (k + 13) 27 [m, .tup js] g = some (.bl false, g) := by
  have hb : ((js.zipIdx 0).all fun p => jobB w h pl (p.2 : Nat) p.1) = false := by
    rw [Bool.eq_false_iff]
    intro ha
    have := List.all_eq_true.mp ha (j, i) (by
      rw [List.mem_zipIdx_iff_getElem?]
      simpa using hi)
    simp at this
    rw [hj] at this
    cases this
  have := okJ_t (k := k) (g := g) (v := false) hm hl h9 (.inr hb)
  rw [hb] at this
  exact this
theorem ok31f {js : List D} (hl : js.length ≤ 100) (hf : ∀ (i j : Nat) a b, j < i → js[i]? = some a → js[j]? = some b → ∃ v, FelV a b v) {i0 j0 : Nat} {a0 b0 : D} (hlt : j0 < i0) (ha0 : js[i0]? = some a0) (hb0 : js[j0]? = some b0) (hbad : FelV a0 b0 false) : tab (k + 2) 31 [.tup js] g = some (.bl false, g) := by
  have run : wp (tab (k + 2) 31 [.tup js] g) fun r => r = (.bl false, g) := by
    refine wp_run rfl ?_
    simp only [b_31, ev_fSeq, wp_bind, ev_fFor]
    have iE : ∀ σ g, iEnum (fVar 0) (some (D.tup js) :: σ) g = some (enumD js, g) := fun σ g => rfl
    have rp : List.replicate (3 - 1) (none : Option D) = [none, none] := rfl
    simp only [List.map_cons, List.map_nil, List.cons_append, List.nil_append, rp, iE, wp_some]
    refine wp_forL (fun i σ gg => (∃ o1 o2, σ = [some (.tup js), o1, o2]) ∧ gg = g ∧ ∀ p q a b, p < i → q < p → js[p]? = some a → js[q]? = some b → FelV a b true) _ 0 _ _ ⟨⟨_, _, rfl⟩, rfl, fun p q a b hp => by omega⟩ ?_ ?_
    · rintro i d σ gg hdi ⟨⟨o1, o2, rfl⟩, rfl, hall⟩
      rw [Nat.zero_add] at *
      have hd2 : ∃ a, js[i]? = some a ∧ d = .tup [.int (i : Nat), a] := by
        unfold enumD at hdi
        rw [List.getElem?_map, List.getElem?_zipIdx] at hdi
        cases hj : js[i]? with
        | none => rw [hj] at hdi; simp at hdi
        | some a => rw [hj] at hdi; simp at hdi; exact ⟨a, rfl, hdi.symm⟩
      obtain ⟨a, ha, rfl⟩ := hd2
      have hi := (List.getElem?_eq_some_iff.mp ha).1
      have sl := slt (g := gg) (xs := js) (n := i) (by omega)
      have cm : ∀ (l : List D) (o : Option D), (∀ b ∈ l, ∃ v, FelV a b v) → ∃ bs : List Bool, compL (gN 0) fTrue (fCall (tab (k + 1) 32) (fCons (fVar 1) (fCons (fVar 0) fNil))) l [o, some a] gg = some (bs.map .bl, gg) ∧ bs.length = l.length ∧ ∀ (q : Nat) b v, l[q]? = some b → bs[q]? = some v → FelV a b v := by
        intro l
        induction l with
        | nil => exact fun o _ => ⟨[], rfl, rfl, by simp⟩
        | cons b l ih =>
          intro o hb
          obtain ⟨bs, e1, e2, e3⟩ := ih (some b) fun x hx => hb x (by simp [hx])
          obtain ⟨v, hv⟩ := hb b (by simp)
          refine ⟨v :: bs, by simp [compL, hv k gg, e1], by simp [e2], fun q b' v' h1 h2 => ?_⟩
          cases q with
          | zero => simp at h1 h2; subst h1; subst h2; exact hv
          | succ q => simp at h1 h2; exact e3 q b' v' h1 h2
      obtain ⟨bs, cm1, cm2, cm3⟩ := cm (js.take i) none fun b hb => by
        obtain ⟨j, hj⟩ := List.mem_iff_getElem?.mp hb
        rw [List.getElem?_take] at hj
        split at hj
        · rename_i z; exact hf i j a b z ha hj
        · cases hj
      have bm := bools_bl bs
      have zt : szOk (js.take i).length = true := sz_of (by simp; omega)
      have sb : ∀ a b c : Option D, subS [none, some 2] [a, b, c] = [none, c] := fun _ _ _ => rfl
      have htk : ∀ (q : Nat) b, q < i → js[q]? = some b → (js.take i)[q]? = some b := fun q b hq hb => by rw [List.getElem?_take, if_pos hq]; exact hb
      generalize js.take i = tk at *
      cases hv : bs.all id with
      | false => simp [sl, sb, zt, cm1, bm, hv]
      | true =>
        simp [sl, sb, zt, cm1, bm, hv]
        intro p q a' b' hp hq h1 h2
        by_cases hpi : p = i
        · subst hpi
          rw [ha] at h1
          cases h1
          have h3 := htk q b' hq h2
          have hql : q < bs.length := by rw [cm2]; exact (List.getElem?_eq_some_iff.mp h3).1
          have h4 : bs[q]? = some bs[q] := List.getElem?_eq_getElem hql
          have h5 : bs[q] = true := List.all_eq_true.mp hv bs[q] (List.getElem_mem _)
          rw [h5] at h4
          exact cm3 q b' true h3 h4
        · exact hall p q a' b' (by omega) hq h1 h2
    · rintro σ gg ⟨⟨o1, o2, rfl⟩, rfl, hall⟩
      exfalso
      have hlen : (enumD js).length = js.length := by simp [enumD]
      have hi := (List.getElem?_eq_some_iff.mp ha0).1
      have h1 := hall i0 j0 a0 b0 (by rw [hlen]; omega) hlt ha0 hb0 0 []
      have h2 := hbad 0 []
      rw [h1] at h2
      cases h2
  obtain ⟨r, e, h⟩ := run
  subst h
  exact e
theorem okJ_fel (hm : Mn m w h pl) {js : List D} (hl : (js.length : Int) = h) (h9 : h ≤ 9) (hf : ∀ (i j : Nat) a b, j < i → js[i]? = some a → js[j]? = some b → ∃ v, FelV a b v) {i0 j0 : Nat} {a0 b0 : D} (hlt : j0 < i0) (ha0 : js[i0]? = some a0) (hb0 : js[j0]? = some b0) (hbad : FelV a0 b0 false) : tab (k + 13) 27 [m, .tup js] g = some (.bl false, g) := by
  have e31 := ok31f (k := k + 10) (g := g) (by omega) hf hlt ha0 hb0 hbad
  have := okJ_t (k := k) (g := g) hm hl h9 (.inl e31)
  rw [Bool.and_false] at this
  exact this
theorem fel_word {x y : Str} {a b : List D} (hne : x ≠ y) : FelV (.tup (.str x :: a)) (.tup (.str y :: b)) false := by
  intro k g
  refine ev_run (σ' := [some (.tup (.str x :: a)), some (.tup (.str y :: b))]) rfl ?_ rfl
  have bx : (x == y) = false := by simpa using hne
  simp [b_32, at_c, eqD, flat, dep, bx]
theorem fel_dup {v : Int} : FelV (.tup [.str "name", .int v]) (.tup [.str "name", .int v]) false := by
  intro k g
  have f2 : ∀ a b : D, atI [a, b] 1 = some b := fun _ _ => rfl
  refine ev_run (σ' := [some (.tup [.str "name", .int v]), some (.tup [.str "name", .int v])]) rfl ?_ rfl
  simp [b_32, at_c, f2, eqD, flat, dep]
theorem fel_third {x : Str} {a b : D} {u v : Int} (hx : x ≠ "name") (hne : u ≠ v) : FelV (.tup [.str x, a, .int u]) (.tup [.str x, b, .int v]) false := by
  intro k g
  refine ev_run (σ' := [some (.tup [.str x, a, .int u]), some (.tup [.str x, b, .int v])]) rfl ?_ rfl
  have e : oEq (.tup [.int u]) (.tup [.int v]) g = some (.bl false, g) := by
    unfold oEq
    rw [if_pos (by simp [flat, flats, dep, deps])]
    simp [eqD, eqDs, hne]
  have bx : (x == x) = true := by simp
  simp [b_32, at_c, sl2, e, hx, eqD, flat, dep]
end
end K09
namespace K09
open PySem L3 L2 Pd
section
variable {k : Nat} {g : G} {m : D} {w : Str} {h pl own : Int}
theorem slf {x : D} {xs : List D} {g : G} : oSlW (.tup (x :: xs)) (some 1) none g = some (.tup xs, g) := by
  have h : oSlW (.tup (x :: xs)) (some ((1 : Nat) : Int)) none g = some (.tup ((x :: xs).drop 1), g) := by
    simp only [oSlW]
    unfold cutD
    rw [sIx_from (by simp), HT.sIx_none]
    simp
  exact h
theorem slt1 {x : D} {xs : List D} {g : G} : oSlW (.tup (x :: xs)) none (some 1) g = some (.tup [x], g) := by
  have := slt (g := g) (xs := x :: xs) (n := 1) (by simp)
  simpa using this
theorem slt2 {x y : D} {xs : List D} {g : G} : oSlW (.tup (x :: y :: xs)) none (some 2) g = some (.tup [x, y], g) := by
  have := slt (g := g) (xs := x :: y :: xs) (n := 2) (by simp)
  simpa using this
theorem sl11 {xs : List D} {g : G} : oSlW (.tup xs) none (some 11) g = some (.tup (xs.take 11), g) := by
  have h : oSlW (.tup xs) none (some ((11 : Nat) : Int)) g = some (.tup (xs.take 11), g) := by
    simp only [oSlW]
    unfold cutD
    rw [HT.sIx_nat, HT.sIx_none]
    simp only [List.drop_zero, Nat.sub_zero]
    congr 2
    by_cases h : 11 ≤ xs.length
    · rw [Nat.min_eq_left h]
    · rw [Nat.min_eq_right (by omega), List.take_of_length_le (Nat.le_refl _), List.take_of_length_le (by omega)]
  exact h
theorem seqm (hm : Mn m w h pl) : ∃ r, ∀ g : G, seqOf m g = some (.str w :: .int h :: r) := by
  obtain ⟨r, hr⟩ := hm.fm
  exact ⟨r, fun g => by rw [hr]; rfl⟩
def Odds (w : Str) (h pl own : Int) (os : List D) : Prop := (∀ o ∈ os, jobB w h pl own o = false) ∧ Nrs os ∧ os.length ≤ 50
theorem put0 {xs ys : List D} {y v : D} : putD (.ref 1) (.int 0) v [xs, y :: ys] = some [xs, v :: ys] := put_ok (xs := y :: ys) (i := 0) rfl (Nat.succ_pos _)
theorem jobB_other {x : Str} {xs : List D} (h1 : ¬ x = "deeds") (h2 : ¬ x = "sums") (h3 : ¬ x = "name") (h4 : ¬ x = "least") (h5 : ¬ x = "closer") : jobB w h pl own (.tup (.str x :: xs)) = false := by
  match xs with
  | [] => rfl
  | [a] => simp [jobB, h1, h2, h3]
  | [a, b] => simp [jobB, h4, h5]
  | a :: b :: c :: d => rfl
theorem odd9 {x : Str} {j os : List D} (hx : ∀ xs, jobB w h pl own (.tup (.str (x ++ "s") :: xs)) = false) (h0 : jobB w h pl own (.tup (.str x :: (j ++ [.int 0]))) = false) (hj : Nrs j) (ho : Odds w h pl own os) (hl : os.length ≤ 40) : Odds w h pl own (.non :: .tup [] :: .lst [] :: .tup [.str x] :: .tup (.str x :: (j ++ [.int 0])) :: .lst (.str x :: j) :: .tup (.str (x ++ "s") :: j) :: .tup (.non :: j) :: .tup (.tup [.str "deeds"] :: j) :: os) := by
  refine ⟨?_, fun n => ?_, ?_⟩
  · intro o hm
    simp only [List.mem_cons] at hm
    rcases hm with rfl | rfl | rfl | rfl | rfl | rfl | rfl | rfl | rfl | hm
    · rfl
    · rfl
    · rfl
    · rfl
    · exact h0
    · rfl
    · exact hx j
    · rfl
    · rfl
    · exact ho.1 o hm
  · have h1 := hj n
    have h2 := ho.2.1 n
    have h3 : noRs n (j ++ [.int 0]) = true := noRs_app h1 rfl
    simp [noRs, noR, h1, h2, h3]
  · simp; omega
theorem row_bad {row : List D} {b : D} (hb : dB w pl own b = false) : jobB w h pl own (.tup [.str "deeds", .tup (row ++ [b])]) = false := by
  have e : jobB w h pl own (.tup [.str "deeds", .tup (row ++ [b])]) = rowB w pl own (.tup (row ++ [b])) := by simp [jobB]
  rw [e]
  simp [rowB, hb]
theorem dB_n {d : D} (hm : d = .non ∨ (∃ xs, d = .lst xs) ∨ d = .tup [.str "look", .int 1]) : dB w pl own d = false := by
  rcases hm with rfl | ⟨xs, rfl⟩ | rfl
  · rfl
  · rfl
  · simp [dB]
theorem dB_v {p v : D} (hv : mv w v = false) : dB w pl own (.tup [.str "put", p, v]) = false := by
  have n1 : ¬ Str.ofString "put" = Str.ofString "look" := by decide
  simp [dB, n1, hv]
theorem dB_p {p v : D} (hp : mp w pl own p = false) : dB w pl own (.tup [.str "put", p, v]) = false := by
  have n1 : ¬ Str.ofString "put" = Str.ofString "look" := by decide
  simp [dB, n1, hp]
theorem mv_n (hw : w ≠ "tables") : mv w .non = false := by simp [mv, hw, isVal, Pd.fig, within]
theorem mv_b (hw : w ≠ "tables") : mv w (.int 1000000000000) = false := by simp [mv, hw, isVal, Pd.fig, within]
set_option maxHeartbeats 8000000 in
theorem odd_deeds (hm : Mn m w h pl) (ht : w ≠ "tables") (hs : w = "shared" → pl ≤ 4) {row : List D} (hr : row.length ≤ 12) (hn : Nrs row) : ∃ os : List D, tab (k + 1) 43 [m, .int own, .tup [.str "deeds", .tup row]] g = some (.lst os, g) ∧ Odds w h pl own os := by
  obtain ⟨r, sq⟩ := seqm hm
  have z0 : ∀ n : Nat, n ≤ 200 → szOk n = true := fun n hn => sz_of (by omega)
  have f2 : ∀ a b : D, atI [a, b] 1 = some b := fun _ _ => rfl
  have p12 : okPow 10 12 = true := by decide
  have zds : szOk ((Str.ofString "deeds").length + (Str.ofString "s").length) = true := by decide
  have tg : tGet [(Str.ofString "least", D.int (h + 1)), (Str.ofString "closer", D.int 7)] (Str.ofString "deeds") = none := by rfl
  have zr : szOk ((min 11 row.length) + 1) = true := sz_of (by omega)
  have zw : szOk row.length = true := sz_of (by omega)
  have ml : ∀ (x : D) (g : G), oMul (.tup [x]) (.int 13) g = some (.tup (List.replicate 13 x), g) := fun x g => rfl
  have run : wp (runFn false 6 3 (b_43 (tab k)) [m, .int own, .tup [.str "deeds", .tup row]] []) fun r => ∃ os, r = (D.lst os, []) ∧ Odds w h pl own os := by
    refine wp_runR rfl ?_
    have rp : List.replicate (6 - 3) (none : Option D) = [none, none, none] := rfl
    have sb : ∀ a b c d e f : Option D, subS [none, some 2] [a, b, c, d, e, f] = [none, c] := fun _ _ _ _ _ _ => rfl
    have fin : ∀ b0 : D, dB w pl own b0 = false → Nr b0 → Odds w h pl own (.non :: .tup [] :: .lst [] :: .tup [.str "deeds"] :: .tup (.str "deeds" :: ([.tup row] ++ [.int 0])) :: .lst (.str "deeds" :: [.tup row]) :: .tup (.str (Str.ofString "deeds" ++ "s") :: [.tup row]) :: .tup (.non :: [.tup row]) :: .tup (.tup [.str "deeds"] :: [.tup row]) ::
        [.tup [.str "deeds", .tup (row.take 11 ++ [b0])], .tup [.str "deeds", .tup (row.take 11 ++ [.tup [.str "put", .int own, .non]])], .tup [.str "deeds", .tup (row.take 11 ++ [.tup [.str "look", .int 1]])], .tup [.str "deeds", .tup (row.take 11 ++ [.non])], .tup [.str "deeds", .tup (row.take 11 ++ [.tup [.str "put", .int own, .int 1000000000000]])], .tup [.str "deeds", .tup (row.take 11 ++ [.lst [.str "look"]])],
         .tup [.str "deeds", .tup (List.replicate 13 (.tup [.str "look"]))], .tup [.str "deeds", .lst row]]) := by
      intro b0 hb0 hn0
      refine odd9 (fun xs => jobB_other (by decide) (by decide) (by decide) (by decide) (by decide)) (jobB_2 (.inl rfl) (by simp)) (fun n => by simp [noRs, noR, hn n]) ⟨?_, fun n => ?_, by simp⟩ (by simp)
      · intro o hm
        simp only [List.mem_cons, List.not_mem_nil, or_false] at hm
        rcases hm with rfl | rfl | rfl | rfl | rfl | rfl | rfl | rfl
        · exact row_bad hb0
        · exact row_bad (dB_v (mv_n ht))
        · exact row_bad (dB_n (.inr (.inr rfl)))
        · exact row_bad (dB_n (.inl rfl))
        · exact row_bad (dB_v (mv_b ht))
        · exact row_bad (dB_n (.inr (.inl ⟨_, rfl⟩)))
        · simp [jobB, rowB]
        · simp [jobB, rowB]
      · have h1 := hn n
        have h2 : noRs n (row.take 11) = true := noRs_of fun x hx => noRs_mem h1 _ (List.mem_of_mem_take hx)
        have h3 : ∀ b, noR n b = true → noRs n (row.take 11 ++ [b]) = true := fun b hb => noRs_app h2 (by simp [noRs, hb])
        have h4 := h3 b0 (hn0 n)
        have h5 := h3 (.tup [.str "put", .int own, .non]) (by simp [noR, noRs])
        have h6 := h3 (.tup [.str "look", .int 1]) (by simp [noR, noRs])
        have h7 := h3 .non (by simp [noR])
        have h8 := h3 (.tup [.str "put", .int own, .int 1000000000000]) (by simp [noR, noRs])
        have h9 := h3 (.lst [.str "look"]) (by simp [noR, noRs])
        have h10 : noRs n (List.replicate 13 (D.tup [.str "look"])) = true := rfl
        simp only [noRs, noR, h4, h5, h6, h7, h8, h9, h10, h1, Bool.and_true]
    simp only [b_43, ev_fSeq, wp_bind, List.map_cons, List.map_nil, List.cons_append, List.nil_append, rp]
    simp [sq, at_c, at_1, flt, slf, slt1, slt2, f2, p12, z0, zds, tg]
    by_cases hw : w = "shared"
    · have f := fin (.tup [.str "put", .int 4, .int 1]) (dB_p (by have := hs hw; simp [mp]; omega)) (fun n => by simp [noR, noRs])
      have f0 := f.2.1 0
      simp [hw, put0, sb, compLR, sl11, lstOf, z0, f2, zr, zw, ml, oAddR]
      simp [hw] at f f0
      exact ⟨f0, f⟩
    · have f := fin (.tup [.str "put", .int (own + 1), .int 1]) (dB_p (by simp [mp, hw]; omega)) (fun n => by simp [noR, noRs])
      have f0 := f.2.1 0
      simp [hw, sb, compLR, sl11, lstOf, z0, f2, zr, zw, ml, oAddR]
      simp at f f0
      exact ⟨f0, f⟩
  obtain ⟨r1, e, os, rfl, ho⟩ := run
  exact ⟨os, pure_eq (by simp [noRs, noR, hm.nr 0, hn 0]) e (by simp [noR, ho.2.1 0]) g, ho⟩
theorem adr {xs ys : List D} {g : G} : oAdd (.ref 0) (.lst ys) (xs :: g) = if szOk (xs.length + ys.length) = true then some (.lst (xs ++ ys), xs :: g) else none := rfl
theorem itm_bad {b : D} (h1 : isNon b = false) (h2 : within b (-999999999) 999999999 = false) : jobB w h pl own (.tup [.str "sums", .tup [b]]) = false := by
  have n1 : ¬ Str.ofString "sums" = Str.ofString "deeds" := by decide
  simp [jobB, n1, itmB, h1, h2]
theorem itm_bad2 {t : D} (h1 : itmB t = false) : jobB w h pl own (.tup [.str "sums", t]) = false := by
  have n1 : ¬ Str.ofString "sums" = Str.ofString "deeds" := by decide
  simp [jobB, n1, h1]
set_option maxHeartbeats 8000000 in
theorem odd_sums (hm : Mn m w h pl) {is : List D} (hr : is.length ≤ 12) (hn : Nrs is) : ∃ os : List D, tab (k + 1) 43 [m, .int own, .tup [.str "sums", .tup is]] g = some (.lst os, g) ∧ Odds w h pl own os := by
  obtain ⟨r, sq⟩ := seqm hm
  have z0 : ∀ n : Nat, n ≤ 200 → szOk n = true := fun n hn => sz_of (by omega)
  have f2 : ∀ a b : D, atI [a, b] 1 = some b := fun _ _ => rfl
  have p9 : okPow 10 9 = true := by decide
  have zds : szOk ((Str.ofString "sums").length + (Str.ofString "s").length) = true := by decide
  have tg : tGet [(Str.ofString "least", D.int (h + 1)), (Str.ofString "closer", D.int 7)] (Str.ofString "sums") = none := by rfl
  have zw : szOk is.length = true := sz_of (by omega)
  have n1 : ¬ Str.ofString "sums" = Str.ofString "deeds" := by decide
  have ml : ∀ (x : D) (g : G), oMul (.tup [x]) (.int 9) g = some (.tup (List.replicate 9 x), g) := fun x g => rfl
  have run : wp (runFn false 6 3 (b_43 (tab k)) [m, .int own, .tup [.str "sums", .tup is]] []) fun r => ∃ os, r = (D.lst os, []) ∧ Odds w h pl own os := by
    refine wp_runR rfl ?_
    have rp : List.replicate (6 - 3) (none : Option D) = [none, none, none] := rfl
    have sb : ∀ σ : Sg, subS [none] σ = [none] := fun _ => rfl
    have f : Odds w h pl own (.non :: .tup [] :: .lst [] :: .tup [.str "sums"] :: .tup (.str "sums" :: ([.tup is] ++ [.int 0])) :: .lst (.str "sums" :: [.tup is]) :: .tup (.str (Str.ofString "sums" ++ "s") :: [.tup is]) :: .tup (.non :: [.tup is]) :: .tup (.tup [.str "deeds"] :: [.tup is]) ::
        [.tup [.str "sums", .tup [.int 1000000000]], .tup [.str "sums", .tup [.int (-1000000000)]], .tup [.str "sums", .tup [.bl true]], .tup [.str "sums", .tup [.str "1"]], .tup [.str "sums", .tup [.tup [.int 1]]], .tup [.str "sums", .tup [.lst [.int 1]]], .tup [.str "sums", .tup (List.replicate 9 (.int 0))], .tup [.str "sums", .non], .tup [.str "sums", .lst is], .tup [.str "sums", .int 5]]) := by
      refine odd9 (fun xs => jobB_other (by decide) (by decide) (by decide) (by decide) (by decide)) (jobB_2 (.inr (.inl rfl)) (by simp)) (fun n => by simp [noRs, noR, hn n]) ⟨?_, fun n => ?_, by simp⟩ (by simp)
      · intro o hm
        simp only [List.mem_cons, List.not_mem_nil, or_false] at hm
        rcases hm with rfl | rfl | rfl | rfl | rfl | rfl | rfl | rfl | rfl | rfl
        · exact itm_bad rfl rfl
        · exact itm_bad rfl rfl
        · exact itm_bad rfl rfl
        · exact itm_bad rfl rfl
        · exact itm_bad rfl rfl
        · exact itm_bad rfl rfl
        · exact itm_bad2 rfl
        · exact itm_bad2 rfl
        · exact itm_bad2 rfl
        · exact itm_bad2 rfl
      · have h1 := hn n
        have h10 : noRs n (List.replicate 9 (D.int 0)) = true := rfl
        simp only [noRs, noR, h1, h10, Bool.and_true]
    have f0 := f.2.1 0
    simp only [b_43, ev_fSeq, wp_bind, List.map_cons, List.map_nil, List.cons_append, List.nil_append, rp]
    simp [sq, at_c, at_1, flt, slf, slt1, slt2, f2, p9, z0, zds, tg, n1, sb, compL, lstOf, zw, ml, oAddR, adr]
    simp at f f0
    exact ⟨f0, f⟩
  obtain ⟨r1, e, os, rfl, ho⟩ := run
  exact ⟨os, pure_eq (by simp [noRs, noR, hm.nr 0, hn 0]) e (by simp [noR, ho.2.1 0]) g, ho⟩
theorem fig_bad {x : Str} {b : D} {r : List D} (hx : x = "name" ∨ x = "least" ∨ x = "closer") (hb : fig b = false) : jobB w h pl own (.tup (.str x :: b :: r)) = false := by
  rcases hx with rfl | rfl | rfl
  · have n2 : ¬ Str.ofString "name" = Str.ofString "deeds" := by decide
    have n3 : ¬ Str.ofString "name" = Str.ofString "sums" := by decide
    by_cases hr : r.length = 0
    · have : r = [] := List.length_eq_zero_iff.mp hr
      subst this
      simp [jobB, n2, n3, hb]
    · exact jobB_2 (.inr (.inr rfl)) (by simp only [List.length_cons]; omega)
  · by_cases hr : r.length = 1
    · obtain ⟨u, rfl⟩ := List.length_eq_one_iff.mp hr
      simp [jobB, hb]
    · exact jobB_3 (.inl rfl) (by simp only [List.length_cons]; omega)
  · by_cases hr : r.length = 1
    · obtain ⟨u, rfl⟩ := List.length_eq_one_iff.mp hr
      have n8 : ¬ Str.ofString "closer" = Str.ofString "least" := by decide
      simp [jobB, hb, n8]
    · exact jobB_3 (.inr rfl) (by simp only [List.length_cons]; omega)
theorem figs {x : Str} {r : List D} (hx : x = "name" ∨ x = "least" ∨ x = "closer") (hr : Nrs r) : Odds w h pl own [.tup (.str x :: .int 1000000000 :: r), .tup (.str x :: .int (-1000000000) :: r), .tup (.str x :: .bl true :: r), .tup (.str x :: .non :: r), .tup (.str x :: .str "1" :: r), .tup (.str x :: .tup [.int 1] :: r), .tup (.str x :: .lst [.int 1] :: r)] := by
  refine ⟨?_, fun n => ?_, by simp⟩
  · intro o hm
    simp only [List.mem_cons, List.not_mem_nil, or_false] at hm
    rcases hm with rfl | rfl | rfl | rfl | rfl | rfl | rfl
    all_goals exact fig_bad hx rfl
  · have h1 := hr n
    simp only [noRs, noR, h1, Bool.and_true]
set_option maxHeartbeats 8000000 in
theorem odd_name (hm : Mn m w h pl) {v : Int} : ∃ os : List D, tab (k + 1) 43 [m, .int own, .tup [.str "name", .int v]] g = some (.lst os, g) ∧ Odds w h pl own os := by
  obtain ⟨r, sq⟩ := seqm hm
  have z0 : ∀ n : Nat, n ≤ 200 → szOk n = true := fun n hn => sz_of (by omega)
  have f2 : ∀ a b : D, atI [a, b] 1 = some b := fun _ _ => rfl
  have p9 : okPow 10 9 = true := by decide
  have zds : szOk ((Str.ofString "name").length + (Str.ofString "s").length) = true := by decide
  have tg : tGet [(Str.ofString "least", D.int (h + 1)), (Str.ofString "closer", D.int 7)] (Str.ofString "name") = none := by rfl
  have n1 : ¬ Str.ofString "name" = Str.ofString "deeds" := by decide
  have n2 : ¬ Str.ofString "name" = Str.ofString "sums" := by decide
  have run : wp (runFn false 6 3 (b_43 (tab k)) [m, .int own, .tup [.str "name", .int v]] []) fun r => ∃ os, r = (D.lst os, []) ∧ Odds w h pl own os := by
    refine wp_runR rfl ?_
    have rp : List.replicate (6 - 3) (none : Option D) = [none, none, none] := rfl
    have sb : ∀ a b c d e f : Option D, subS [none, some 2] [a, b, c, d, e, f] = [none, c] := fun _ _ _ _ _ _ => rfl
    have f := odd9 (w := w) (h := h) (pl := pl) (own := own) (x := "name") (j := [.int v]) (fun xs => jobB_other (by decide) (by decide) (by decide) (by decide) (by decide)) (jobB_2 (.inr (.inr rfl)) (by simp)) (fun n => by simp [noRs, noR]) (figs (r := []) (.inl rfl) fun n => rfl) (by simp)
    have f0 := f.2.1 0
    simp only [b_43, ev_fSeq, wp_bind, List.map_cons, List.map_nil, List.cons_append, List.nil_append, rp]
    simp [sq, at_c, at_1, flt, slf, slt1, slt2, sl2, f2, p9, z0, zds, tg, n1, n2, sb, compL, lstOf, oAddR, adr]
    simp at f f0
    exact ⟨f0, f⟩
  obtain ⟨r1, e, os, rfl, ho⟩ := run
  exact ⟨os, pure_eq (by simp [noRs, noR, hm.nr 0]) e (by simp [noR, ho.2.1 0]) g, ho⟩
theorem u_bad {x : Str} {v b : D} (hx : x = "least" ∨ x = "closer") (hb : x = "least" → within b 1 h = false) (hc : x = "closer" → within b 1 6 = false) : jobB w h pl own (.tup [.str x, v, b]) = false := by
  rcases hx with rfl | rfl
  · simp [jobB, hb rfl]
  · have n8 : ¬ Str.ofString "closer" = Str.ofString "least" := by decide
    simp [jobB, hc rfl, n8]
theorem odds_app {os ps : List D} (ho : Odds w h pl own os) (hp : Odds w h pl own ps) (hl : os.length + ps.length ≤ 50) : Odds w h pl own (os ++ ps) := by
  refine ⟨fun o hm => ?_, fun n => noRs_app (ho.2.1 n) (hp.2.1 n), by simp; omega⟩
  rcases List.mem_append.mp hm with hm | hm
  · exact ho.1 o hm
  · exact hp.1 o hm
theorem us {x : Str} {v : D} {M : Int} (hx : (x = "least" ∧ M = h + 1) ∨ (x = "closer" ∧ M = 7)) (hv : Nr v) : Odds w h pl own [.tup [.str x, v, .int 0], .tup [.str x, v, .int M], .tup [.str x, v, .int (-1)], .tup [.str x, v, .bl true], .tup [.str x, v, .non], .tup [.str x, v, .str "1"], .tup [.str x, v, .tup [.int 1]]] := by
  have hx' : x = "least" ∨ x = "closer" := by rcases hx with ⟨e, _⟩ | ⟨e, _⟩ <;> simp [e]
  have n8 : ¬ Str.ofString "closer" = Str.ofString "least" := by decide
  have n9 : ¬ Str.ofString "least" = Str.ofString "closer" := by decide
  refine ⟨?_, fun n => ?_, by simp⟩
  · intro o hm
    simp only [List.mem_cons, List.not_mem_nil, or_false] at hm
    rcases hm with rfl | rfl | rfl | rfl | rfl | rfl | rfl
    · exact u_bad hx' (fun _ => by simp [within]) fun _ => by simp [within]
    · refine u_bad hx' (fun e => ?_) fun e => ?_
      · rcases hx with ⟨_, e2⟩ | ⟨e2, _⟩
        · subst e2; simp [within]; omega
        · rw [e] at e2; exact absurd e2 n9
      · rcases hx with ⟨e2, _⟩ | ⟨_, e2⟩
        · rw [e] at e2; exact absurd e2 n8
        · subst e2; simp [within]
    · exact u_bad hx' (fun _ => by simp [within]) fun _ => by simp [within]
    · exact u_bad hx' (fun _ => by simp [within]) fun _ => by simp [within]
    · exact u_bad hx' (fun _ => by simp [within]) fun _ => by simp [within]
    · exact u_bad hx' (fun _ => by simp [within]) fun _ => by simp [within]
    · exact u_bad hx' (fun _ => by simp [within]) fun _ => by simp [within]
  · have h1 := hv n
    simp only [noRs, noR, h1, Bool.and_true]
set_option maxHeartbeats 8000000 in
theorem odd_three (hm : Mn m w h pl) (h1 : 1 ≤ h) {x : Str} {v u : Int} (hx : x = "least" ∨ x = "closer") : ∃ os : List D, tab (k + 1) 43 [m, .int own, .tup [.str x, .int v, .int u]] g = some (.lst os, g) ∧ Odds w h pl own os := by
  obtain ⟨r, sq⟩ := seqm hm
  have z0 : ∀ n : Nat, n ≤ 200 → szOk n = true := fun n hn => sz_of (by omega)
  have f2 : ∀ a b : D, atI [a, b] 1 = some b := fun _ _ => rfl
  have p9 : okPow 10 9 = true := by decide
  have zds : szOk (x.length + (Str.ofString "s").length) = true := by rcases hx with rfl | rfl <;> decide
  obtain ⟨M, tg, hM, hM0⟩ : ∃ M : Int, tGet [(Str.ofString "least", D.int (h + 1)), (Str.ofString "closer", D.int 7)] x = some (.int M) ∧ ((x = "least" ∧ M = h + 1) ∨ (x = "closer" ∧ M = 7)) ∧ 0 < M := by
    rcases hx with rfl | rfl
    · exact ⟨h + 1, rfl, .inl ⟨rfl, rfl⟩, by omega⟩
    · exact ⟨7, rfl, .inr ⟨rfl, rfl⟩, by omega⟩
  have n1 : ¬ x = Str.ofString "deeds" := by rcases hx with rfl | rfl <;> decide
  have n2 : ¬ x = Str.ofString "sums" := by rcases hx with rfl | rfl <;> decide
  have run : wp (runFn false 6 3 (b_43 (tab k)) [m, .int own, .tup [.str x, .int v, .int u]] []) fun r => ∃ os, r = (D.lst os, []) ∧ Odds w h pl own os := by
    refine wp_runR rfl ?_
    have rp : List.replicate (6 - 3) (none : Option D) = [none, none, none] := rfl
    have sb : ∀ a b c d e f : Option D, subS [none, some 2] [a, b, c, d, e, f] = [none, c] := fun _ _ _ _ _ _ => rfl
    have o1 : ∀ xs, jobB w h pl own (.tup (.str (x ++ "s") :: xs)) = false := fun xs => by
      rcases hx with rfl | rfl
      · exact jobB_other (by decide) (by decide) (by decide) (by decide) (by decide)
      · exact jobB_other (by decide) (by decide) (by decide) (by decide) (by decide)
    have fg := figs (w := w) (h := h) (pl := pl) (own := own) (x := x) (r := [.int u]) (.inr hx) (fun n => by simp [noRs, noR])
    have f := odds_app (odd9 (w := w) (h := h) (pl := pl) (own := own) (x := x) (j := [.int v, .int u]) o1 (jobB_3 hx (by simp)) (fun n => by simp [noRs, noR]) fg (by simp)) (us (v := .int v) hM fun n => rfl) (by simp)
    have f0 := f.2.1 0
    simp only [b_43, ev_fSeq, wp_bind, List.map_cons, List.map_nil, List.cons_append, List.nil_append, rp]
    simp [sq, at_c, at_1, flt, slf, slt1, slt2, sl2, f2, p9, z0, zds, tg, n1, n2, sb, compL, lstOf, oAddR, adr, hM0]
    simp at f f0
    exact ⟨f0, f⟩
  obtain ⟨r1, e, os, rfl, ho⟩ := run
  exact ⟨os, pure_eq (by simp [noRs, noR, hm.nr 0]) e (by simp [noR, ho.2.1 0]) g, ho⟩
end
end K09
namespace K09
open PySem L3 L2 Pd
def NoJ (m t : D) : Prop := ∀ (k : Nat) (g : G), tab (k + 13) 27 [m, t] g = some (.bl false, g)
structure JOk (m : D) (w : Str) (h pl : Int) (js : List D) : Prop where
  len : (js.length : Int) = h
  nr : Nrs js
  fel : ∀ (i j : Nat) a b, j < i → js[i]? = some a → js[j]? = some b → FelV a b true
  odd : ∀ (i : Nat) j, js[i]? = some j → ∀ (k : Nat) (g : G), ∃ os, tab (k + 1) 43 [m, .int (i : Int), j] g = some (.lst os, g) ∧ Odds w h pl (i : Int) os
  sh : (∀ (i : Nat) j, js[i]? = some j → ∃ t, j = .tup [.str "deeds", t]) ∨ (∀ (i : Nat) j, js[i]? = some j → ∃ t, j = .tup [.str "sums", t]) ∨ (∀ (i : Nat) j, js[i]? = some j → ∃ v : Int, j = .tup [.str "name", .int v]) ∨
    ∃ (x : Str) (u : Int), (x = "least" ∨ x = "closer") ∧ 1 ≤ u ∧ ∀ (i : Nat) j, js[i]? = some j → ∃ v : Int, j = .tup [.str x, .int v, .int u]
section
variable {m : D} {w : Str} {h pl : Int} {js : List D}
theorem JOk.word (J : JOk m w h pl js) {i : Nat} {j : D} (hi : js[i]? = some j) : ∃ x xs, j = .tup (.str x :: xs) := by
  rcases J.sh with s | s | s | ⟨x, u, _, _, s⟩
  · obtain ⟨t, rfl⟩ := s i j hi; exact ⟨_, _, rfl⟩
  · obtain ⟨t, rfl⟩ := s i j hi; exact ⟨_, _, rfl⟩
  · obtain ⟨t, rfl⟩ := s i j hi; exact ⟨_, _, rfl⟩
  · obtain ⟨t, rfl⟩ := s i j hi; exact ⟨_, _, rfl⟩
theorem noJ_len (hm : Mn m w h pl) {t : D} (ht : tupLen t h h = false) : NoJ m t := fun k g => okJ_len hm ht
theorem noJ_n (hm : Mn m w h pl) {l : List D} (hl : ¬ (l.length : Int) = h) : NoJ m (.tup l) := noJ_len hm (by simp [tupLen]; omega)
theorem noJ_bad (hm : Mn m w h pl) (h9 : h ≤ 9) (J : JOk m w h pl js) {own : Nat} (ho : own < js.length) {x : D} (hx : jobB w h pl (own : Int) x = false) : NoJ m (.tup (js.set own x)) := fun k g =>
  okJ_bad hm (by simp [J.len]) h9 (i := own) (j := x) (by rw [List.getElem?_set_self ho]) hx
theorem noJ_set (hm : Mn m w h pl) (h9 : h ≤ 9) (J : JOk m w h pl js) {own : Nat} {x : D} (ho : own < js.length) (hx : ∀ (i : Nat) b, i ≠ own → js[i]? = some b → (∃ v, FelV x b v) ∧ ∃ v, FelV b x v) {i : Nat} {b : D} (hi : i ≠ own) (hb : js[i]? = some b) (h1 : FelV x b false) (h2 : FelV b x false) : NoJ m (.tup (js.set own x)) := by
  intro k g
  have hf : ∀ (i j : Nat) a b, j < i → (js.set own x)[i]? = some a → (js.set own x)[j]? = some b → ∃ v, FelV a b v := by
    intro i j a b hij ha hb
    by_cases e1 : i = own
    · subst e1
      rw [List.getElem?_set_self ho] at ha
      cases ha
      rw [List.getElem?_set_ne (by omega)] at hb
      exact (hx j b (by omega) hb).1
    · rw [List.getElem?_set_ne (Ne.symm e1)] at ha
      by_cases e2 : j = own
      · subst e2
        rw [List.getElem?_set_self ho] at hb
        cases hb
        exact (hx i a e1 ha).2
      · rw [List.getElem?_set_ne (Ne.symm e2)] at hb
        exact ⟨true, J.fel i j a b hij ha hb⟩
  have hso : (js.set own x)[own]? = some x := by rw [List.getElem?_set_self ho]
  have hsi : (js.set own x)[i]? = some b := by rw [List.getElem?_set_ne (Ne.symm hi)]; exact hb
  by_cases e : i < own
  · exact okJ_fel hm (by simp [J.len]) h9 hf e hso hsi h1
  · exact okJ_fel hm (by simp [J.len]) h9 hf (show own < i by omega) hsi hso h2
theorem noJ_word (hm : Mn m w h pl) (h9 : h ≤ 9) (J : JOk m w h pl js) {own : Nat} {x y : Str} {a : List D} (ho : own < js.length) (hh : 1 < h) (hy : ∀ (i : Nat) j, js[i]? = some j → ∃ b, j = .tup (.str y :: b)) (hne : x ≠ y) : NoJ m (.tup (js.set own (.tup (.str x :: a)))) := by
  have hl := J.len
  obtain ⟨i, hi, hil⟩ : ∃ i : Nat, i ≠ own ∧ i < js.length := by
    by_cases e : own = 0
    · exact ⟨1, by omega, by omega⟩
    · exact ⟨0, by omega, by omega⟩
  obtain ⟨b, hb⟩ := hy i _ (List.getElem?_eq_getElem hil)
  refine noJ_set hm h9 J ho (fun i c _ hc => ?_) hi (by rw [List.getElem?_eq_getElem hil, hb]) (fel_word hne) (fel_word (Ne.symm hne))
  obtain ⟨b', rfl⟩ := hy i c hc
  exact ⟨⟨false, fel_word hne⟩, false, fel_word (Ne.symm hne)⟩
theorem noJ_name (hm : Mn m w h pl) (h9 : h ≤ 9) (J : JOk m w h pl js) {own q : Nat} {x : D} (ho : own < js.length) (hq : q ≠ own) (hx : js[q]? = some x) (hy : ∀ (i : Nat) j, js[i]? = some j → ∃ v : Int, j = .tup [.str "name", .int v]) : NoJ m (.tup (js.set own x)) := by
  obtain ⟨v, rfl⟩ := hy q x hx
  refine noJ_set hm h9 J ho (fun i c _ hc => ?_) hq hx fel_dup fel_dup
  obtain ⟨u, rfl⟩ := hy i c hc
  by_cases e : v = u
  · subst e; exact ⟨⟨false, fel_dup⟩, false, fel_dup⟩
  · exact ⟨⟨true, fel_name e⟩, true, fel_name (Ne.symm e)⟩
theorem noJ_third (hm : Mn m w h pl) (h9 : h ≤ 9) (J : JOk m w h pl js) {own : Nat} {x : Str} {v u u' : Int} (ho : own < js.length) (hh : 1 < h) (hx : x = "least" ∨ x = "closer") (hy : ∀ (i : Nat) j, js[i]? = some j → ∃ v : Int, j = .tup [.str x, .int v, .int u]) (hne : u' ≠ u) : NoJ m (.tup (js.set own (.tup [.str x, .int v, .int u']))) := by
  have hl := J.len
  have hxn : x ≠ "name" := by rcases hx with rfl | rfl <;> decide
  obtain ⟨i, hi, hil⟩ : ∃ i : Nat, i ≠ own ∧ i < js.length := by
    by_cases e : own = 0
    · exact ⟨1, by omega, by omega⟩
    · exact ⟨0, by omega, by omega⟩
  obtain ⟨b, hb⟩ := hy i _ (List.getElem?_eq_getElem hil)
  refine noJ_set hm h9 J ho (fun i c _ hc => ?_) hi (by rw [List.getElem?_eq_getElem hil, hb]) (fel_third hxn hne) (fel_third hxn (Ne.symm hne))
  obtain ⟨b', rfl⟩ := hy i c hc
  exact ⟨⟨false, fel_third hxn hne⟩, false, fel_third hxn (Ne.symm hne)⟩
def rep (fa fi fx : FE) : FE := fOp oAdd (fOp oAdd (fSlW fa fNoP (fPart fi)) (fMk mkTup (fCons fx fNil))) (fSlW fa (fPart (fOp oAdd fi (fC (.int 1)))) fNoP)
theorem sld {xs : List D} {n : Nat} {g : G} (h : n ≤ xs.length) : oSlW (.tup xs) (some (n : Int)) none g = some (.tup (xs.drop n), g) := by
  simp only [oSlW]
  unfold cutD
  rw [sIx_from h, HT.sIx_none]
  simp
  exact List.take_of_length_le (by simp)
theorem rep_ev {fa fi fx : FE} {σ : Sg} {g : G} {own : Nat} {x : D} (h1 : fa σ g = some (.tup js, g)) (h2 : fi σ g = some (.int (own : Nat), g)) (h3 : fx σ g = some (x, g)) (ho : own < js.length) (h9 : js.length ≤ 9) : rep fa fi fx σ g = some (.tup (js.set own x), g) := by
  have s1 := slt (g := g) (xs := js) (n := own) (by omega)
  have s2 := sld (g := g) (xs := js) (n := own + 1) (by omega)
  have e : js.set own x = js.take own ++ [x] ++ js.drop (own + 1) := by
    rw [List.set_eq_take_append_cons_drop, if_pos ho]; simp
  have c : ((own + 1 : Nat) : Int) = (own : Int) + 1 := by omega
  rw [c] at s2
  have z1 : szOk ((js.take own).length + 1) = true := sz_of (by simp; omega)
  have z2 : szOk ((js.take own).length + 1 + (js.drop (own + 1)).length) = true := sz_of (by simp; omega)
  rw [e]
  generalize js.take own = A at *
  generalize js.drop (own + 1) = B at *
  simp [rep, h1, h2, h3, s1, s2, z1, z2]
theorem comp_rep {own : Nat} (ho : own < js.length) (h9 : js.length ≤ 9) (g : G) : ∀ (os : List D) (o : Option D), compL (gN 0) fTrue (rep (fVar 1) (fVar 2) (fVar 0)) os [o, some (.tup js), some (.int (own : Nat))] g = some (os.map fun x => .tup (js.set own x), g)
  | [], o => rfl
  | x :: os, o => by
    have := comp_rep ho h9 g os (some x)
    have e := rep_ev (fa := fVar 1) (fi := fVar 2) (fx := fVar 0) (σ := [some x, some (.tup js), some (.int (own : Nat))]) (g := g) (js := js) (own := own) (x := x) (by simp) (by simp) (by simp) ho h9
    simp [compL, this, e]
end
end K09
namespace K09
open PySem L3 L2 Pd
def tl44 : FS := (fSeq (fIf (fTest (fOp oGt (fOp oIx (fVar 1) (fC (.int 1))) (fC (.int 1)))) (fSeq (fAsg (fMk mkLst (fCons (fMk mkTup (fCons (fC (.str "sums")) (fCons (fMk mkTup (fCons (fC (.int 1)) (fNil))) (fNil)))) (fCons (fMk mkTup (fCons (fC (.str "name")) (fCons (fC (.int 999)) (fNil)))) (fCons (fMk mkTup (fCons (fC (.str "deeds")) (fCons (fMk mkTup (fCons (fMk mkTup (fCons (fC (.str "look")) (fNil))) (fNil))) (fNil)))) (fNil))))) (gN 6)) (fAsg (fOp oAddR (fVar 5) (fComp cLst (iSeq (fVar 6)) [none, some 4, some 2, some 3] (gN 0) (fTest (fOp oNeD (fOp oIx (fVar 0) (fC (.int 0))) (fOp oIx (fVar 1) (fC (.int 0))))) (rep (fVar 2) (fVar 3) (fVar 0)))) (gN 5))) (fSkip)) (fSeq (fIf (fAnd (fTest (fOp oGt (fOp oIx (fVar 1) (fC (.int 1))) (fC (.int 1)))) (fTest (fOp oEq (fOp oIx (fVar 4) (fC (.int 0))) (fC (.str "name"))))) (fDrop (fApp (fVar 5) (rep (fVar 2) (fVar 3) (fOp oIx (fVar 2) (fOp (iOp okAny (· - ·)) (fVar 3) (fC (.int 1))))))) (fSkip)) (fSeq (fIf (fAnd (fTest (fOp oGt (fOp oIx (fVar 1) (fC (.int 1))) (fC (.int 1)))) (fTest (fOp oIn (fOp oIx (fVar 4) (fC (.int 0))) (fMk mkTup (fCons (fC (.str "least")) (fCons (fC (.str "closer")) (fNil))))))) (fDrop (fApp (fVar 5) (rep (fVar 2) (fVar 3) (fOp oAdd (fSlW (fVar 4) (fNoP) (fPart (fC (.int 2)))) (fMk mkTup (fCons (fOp oAdd (fC (.int 1)) (fOp (iOp okMod (· % ·)) (fOp oIx (fVar 4) (fC (.int 2))) (fOp oIx (fVar 1) (fC (.int 1))))) (fNil))))))) (fSkip)) (fRet (fVar 5)))))
theorem b44_eq {k : Nat} : b_44 (tab k) = fSeq (fAsg (fCall (tab k 35) (fCons (fVar 0) (fCons (fOp oIx (fVar 1) (fC (.int 1))) (fNil)))) (gN 3)) (fSeq (fAsg (fOp oIx (fVar 2) (fVar 3)) (gN 4)) (fSeq (fAsg (fMk mkRef (fCons (fCall bLst (fCons (fVar 2) (fNil))) (fCons (fSlW (fVar 2) (fPart (fC (.int 1))) (fNoP)) (fCons (fOp oAdd (fVar 2) (fSlW (fVar 2) (fNoP) (fPart (fC (.int 1))))) (fCons (fOp oAdd (fVar 2) (fMk mkTup (fCons (fC .non) (fNil)))) (fCons (fOp oIx (fVar 2) (fC (.int 0))) (fCons (fMk mkTup (fCons (fVar 2) (fNil))) (fNil)))))))) (gN 5)) (fSeq (fAsg (fOp oAddR (fVar 5) (fComp cLst (iSeq (fCall (tab k 43) (fCons (fVar 1) (fCons (fVar 3) (fCons (fVar 4) (fNil)))))) [none, some 2, some 3] (gN 0) (fTrue) (rep (fVar 1) (fVar 2) (fVar 0)))) (gN 5)) tl44))) := rfl
section
variable {m : D} {w : Str} {h pl : Int} {js : List D}
theorem at_prev {own : Nat} (ho : own < js.length) (h1 : 1 < js.length) : ∃ q x, q ≠ own ∧ js[q]? = some x ∧ atI js ((own : Int) - 1) = some x := by
  by_cases e : own = 0
  · subst e
    have hl : js.length - 1 < js.length := by omega
    refine ⟨js.length - 1, js[js.length - 1], by omega, List.getElem?_eq_getElem hl, ?_⟩
    have h1 : ¬ ((0 : Int) ≤ ((0 : Nat) : Int) - 1) := by omega
    have h2 : -(js.length : Int) ≤ ((0 : Nat) : Int) - 1 := by omega
    have h3 : (((0 : Nat) : Int) - 1 + (js.length : Int)).toNat = js.length - 1 := by omega
    unfold atI ixN
    rw [if_neg h1, if_pos h2, h3]
    exact List.getElem?_eq_getElem hl
  · have hl : own - 1 < js.length := by omega
    refine ⟨own - 1, js[own - 1], by omega, List.getElem?_eq_getElem hl, ?_⟩
    rw [show (own : Int) - 1 = ((own - 1 : Nat) : Int) by omega]
    exact at_nat (List.getElem?_eq_getElem hl)
def Ext44 (m : D) (ex : List D) : Prop := (∀ t ∈ ex, NoJ m t) ∧ Nrs ex ∧ ex.length ≤ 4
theorem nr_set {x : D} {own : Nat} (hj : Nrs js) (hx : Nr x) : Nr (.tup (js.set own x)) := fun n => by
  simp only [noR]
  refine noRs_of fun y hy => ?_
  rcases List.mem_or_eq_of_mem_set hy with h | h
  · exact noRs_mem (hj n) y h
  · rw [h]; exact hx n
theorem nr_list {ex : List D} (h : ∀ x ∈ ex, Nr x) : Nrs ex := fun n => noRs_of fun x hx => h x hx n
abbrev sg44 (n : Nat) (m : D) (js : List D) (own : Nat) (j : D) (L : Nat) : Sg := [some (.ref n), some m, some (.tup js), some (.int (own : Nat)), some j, some (.ref (L + 1)), none]
def Q44 (m : D) (F : List D) (g1 : G) (r : L3.F × Sg × G) : Prop := ∃ (p : Nat) (ex : List D), r.1 = .rt (.ref p) ∧ g1.length ≤ p ∧ r.2.2[p]? = some (F ++ ex) ∧ r.2.2.take g1.length = g1 ∧ Ext44 m ex
theorem ext_of {ex : List D} (h : ∀ t ∈ ex, NoJ m t ∧ Nr t) (hl : ex.length ≤ 4) : Ext44 m ex := ⟨fun t ht => (h t ht).1, nr_list fun t ht => (h t ht).2, hl⟩
set_option maxHeartbeats 8000000 in
theorem tl_1 (hm : Mn m w h pl) (hh : ¬ 1 < h) {own n : Nat} {j : D} {S F : List D} {g1 : G} : wp (tl44 (sg44 n m js own j g1.length) (g1 ++ [S, F])) (Q44 m F g1) := by
  obtain ⟨r, sq⟩ := seqm hm
  simp [tl44, sq, at_1, hh]
  exact ⟨_, [], rfl, by simp, by simp, by simp, ext_of (by simp) (by simp)⟩
set_option maxHeartbeats 8000000 in
theorem tl_deeds (hm : Mn m w h pl) (h5 : h ≤ 5) (hh : 1 < h) (J : JOk m w h pl js) {own n : Nat} (ho : own < js.length) (hy : ∀ (i : Nat) j, js[i]? = some j → ∃ t, j = .tup [.str "deeds", t]) {t : D} {S F : List D} (hF : F.length ≤ 100) {g1 : G} : wp (tl44 (sg44 n m js own (.tup [.str "deeds", t]) g1.length) (g1 ++ [S, F])) (Q44 m F g1) := by
  obtain ⟨r, sq⟩ := seqm hm
  have hl := J.len
  have h9 : h ≤ 9 := by omega
  have rp : ∀ (x j : D) (g : G), rep (fVar 2) (fVar 3) (fVar 0) [some x, some j, some (.tup js), some (.int (own : Nat))] g = some (.tup (js.set own x), g) := fun x j g => rep_ev (by simp) (by simp) (by simp) ho (by omega)
  have sb : ∀ a b c d e f g : Option D, subS [none, some 4, some 2, some 3] [a, b, c, d, e, f, g] = [none, e, c, d] := fun _ _ _ _ _ _ _ => rfl
  have fl : ∀ x : Str, flat (.str x) = true := fun _ => rfl
  have dp : ∀ x : Str, dep (.str x) = 0 := fun _ => by simp [dep]
  have z3 : szOk 3 = true := by decide
  have e1 : eqD (.str "sums") (.str "deeds") = false := by decide
  have e2 : eqD (.str "name") (.str "deeds") = false := by decide
  have e3 : eqD (.str "deeds") (.str "deeds") = true := by decide
  have zF : szOk (F.length + 2) = true := sz_of (by omega)
  have n1 : ¬ Str.ofString "deeds" = Str.ofString "name" := by decide
  have ni : oIn (.str "deeds") (.tup [.str "least", .str "closer"]) = fun g => some (.bl false, g) := by funext g; rfl
  have hy' : ∀ (i : Nat) j, js[i]? = some j → ∃ b, j = .tup (.str "deeds" :: b) := fun i j hj => by obtain ⟨t, rfl⟩ := hy i j hj; exact ⟨_, rfl⟩
  simp [-ev_oIn, tl44, sq, at_1, at_c, hh, z3, sb, compL, rp, e1, e2, e3, fl, dp, lstOf, oAddR, zF, n1, ni]
  refine ⟨_, [.tup (js.set own (.tup (.str "sums" :: [.tup [.int 1]]))), .tup (js.set own (.tup (.str "name" :: [.int 999])))], rfl, by simp, by simp, by simp, ext_of (fun t ht => ?_) (by simp)⟩
  simp only [List.mem_cons, List.not_mem_nil, or_false] at ht
  rcases ht with rfl | rfl
  · exact ⟨noJ_word hm h9 J ho hh hy' (by decide), nr_set J.nr fun n => by simp [noR, noRs]⟩
  · exact ⟨noJ_word hm h9 J ho hh hy' (by decide), nr_set J.nr fun n => by simp [noR, noRs]⟩
set_option maxHeartbeats 8000000 in
theorem tl_sums (hm : Mn m w h pl) (h5 : h ≤ 5) (hh : 1 < h) (J : JOk m w h pl js) {own n : Nat} (ho : own < js.length) (hy : ∀ (i : Nat) j, js[i]? = some j → ∃ t, j = .tup [.str "sums", t]) {t : D} {S F : List D} (hF : F.length ≤ 100) {g1 : G} : wp (tl44 (sg44 n m js own (.tup [.str "sums", t]) g1.length) (g1 ++ [S, F])) (Q44 m F g1) := by
  obtain ⟨r, sq⟩ := seqm hm
  have hl := J.len
  have h9 : h ≤ 9 := by omega
  have rp : ∀ (x j : D) (g : G), rep (fVar 2) (fVar 3) (fVar 0) [some x, some j, some (.tup js), some (.int (own : Nat))] g = some (.tup (js.set own x), g) := fun x j g => rep_ev (by simp) (by simp) (by simp) ho (by omega)
  have sb : ∀ a b c d e f g : Option D, subS [none, some 4, some 2, some 3] [a, b, c, d, e, f, g] = [none, e, c, d] := fun _ _ _ _ _ _ _ => rfl
  have fl : ∀ x : Str, flat (.str x) = true := fun _ => rfl
  have dp : ∀ x : Str, dep (.str x) = 0 := fun _ => by simp [dep]
  have z3 : szOk 3 = true := by decide
  have e1 : eqD (.str "sums") (.str "sums") = true := by decide
  have e2 : eqD (.str "name") (.str "sums") = false := by decide
  have e3 : eqD (.str "deeds") (.str "sums") = false := by decide
  have zF : szOk (F.length + 2) = true := sz_of (by omega)
  have n1 : ¬ Str.ofString "sums" = Str.ofString "name" := by decide
  have ni : oIn (.str "sums") (.tup [.str "least", .str "closer"]) = fun g => some (.bl false, g) := by funext g; rfl
  have hy' : ∀ (i : Nat) j, js[i]? = some j → ∃ b, j = .tup (.str "sums" :: b) := fun i j hj => by obtain ⟨t, rfl⟩ := hy i j hj; exact ⟨_, rfl⟩
  simp [-ev_oIn, tl44, sq, at_1, at_c, hh, z3, sb, compL, rp, e1, e2, e3, fl, dp, lstOf, oAddR, zF, n1, ni]
  refine ⟨_, [.tup (js.set own (.tup (.str "name" :: [.int 999]))), .tup (js.set own (.tup (.str "deeds" :: [.tup [.tup [.str "look"]]])))], rfl, by simp, by simp, by simp, ext_of (fun t ht => ?_) (by simp)⟩
  simp only [List.mem_cons, List.not_mem_nil, or_false] at ht
  rcases ht with rfl | rfl
  · exact ⟨noJ_word hm h9 J ho hh hy' (by decide), nr_set J.nr fun n => by simp [noR, noRs]⟩
  · exact ⟨noJ_word hm h9 J ho hh hy' (by decide), nr_set J.nr fun n => by simp [noR, noRs]⟩
set_option maxHeartbeats 8000000 in
theorem tl_name (hm : Mn m w h pl) (h5 : h ≤ 5) (hh : 1 < h) (J : JOk m w h pl js) {own n : Nat} (ho : own < js.length) (hy : ∀ (i : Nat) j, js[i]? = some j → ∃ v : Int, j = .tup [.str "name", .int v]) {v : Int} {S F : List D} (hF : F.length ≤ 100) {g1 : G} : wp (tl44 (sg44 n m js own (.tup [.str "name", .int v]) g1.length) (g1 ++ [S, F])) (Q44 m F g1) := by
  obtain ⟨r, sq⟩ := seqm hm
  have hl := J.len
  have h9 : h ≤ 9 := by omega
  have rp : ∀ (x j : D) (g : G), rep (fVar 2) (fVar 3) (fVar 0) [some x, some j, some (.tup js), some (.int (own : Nat))] g = some (.tup (js.set own x), g) := fun x j g => rep_ev (by simp) (by simp) (by simp) ho (by omega)
  have sb : ∀ a b c d e f g : Option D, subS [none, some 4, some 2, some 3] [a, b, c, d, e, f, g] = [none, e, c, d] := fun _ _ _ _ _ _ _ => rfl
  have fl : ∀ x : Str, flat (.str x) = true := fun _ => rfl
  have dp : ∀ x : Str, dep (.str x) = 0 := fun _ => by simp [dep]
  have z3 : szOk 3 = true := by decide
  have e1 : eqD (.str "sums") (.str "name") = false := by decide
  have e2 : eqD (.str "name") (.str "name") = true := by decide
  have e3 : eqD (.str "deeds") (.str "name") = false := by decide
  have zF : szOk (F.length + 2) = true := sz_of (by omega)
  have zF3 : szOk (F.length + 2 + 1) = true := sz_of (by omega)
  have ni : oIn (.str "name") (.tup [.str "least", .str "closer"]) = fun g => some (.bl false, g) := by funext g; rfl
  have hy' : ∀ (i : Nat) j, js[i]? = some j → ∃ b, j = .tup (.str "name" :: b) := fun i j hj => by obtain ⟨t, rfl⟩ := hy i j hj; exact ⟨_, rfl⟩
  obtain ⟨q, x, hq, hx, hat⟩ := at_prev ho (by omega : 1 < js.length)
  have rq : ∀ (a b c d e : Option D) (g : G), rep (fVar 2) (fVar 3) (fOp oIx (fVar 2) (fOp (iOp okAny (· - ·)) (fVar 3) (fC (.int 1)))) [a, b, some (.tup js), some (.int (own : Nat)), c, d, e] g = some (.tup (js.set own x), g) := fun a b c d e g => rep_ev (by simp) (by simp) (by simp [hat]) ho (by omega)
  simp [-ev_oIn, tl44, sq, at_1, at_c, hh, z3, sb, compL, rp, e1, e2, e3, fl, dp, lstOf, oAddR, zF, zF3, ni, rq]
  refine ⟨_, [.tup (js.set own (.tup (.str "sums" :: [.tup [.int 1]]))), .tup (js.set own (.tup (.str "deeds" :: [.tup [.tup [.str "look"]]]))), .tup (js.set own x)], rfl, by simp, by simp, by simp, ext_of (fun t ht => ?_) (by simp)⟩
  simp only [List.mem_cons, List.not_mem_nil, or_false] at ht
  rcases ht with rfl | rfl | rfl
  · exact ⟨noJ_word hm h9 J ho hh hy' (by decide), nr_set J.nr fun n => by simp [noR, noRs]⟩
  · exact ⟨noJ_word hm h9 J ho hh hy' (by decide), nr_set J.nr fun n => by simp [noR, noRs]⟩
  · exact ⟨noJ_name hm h9 J ho hq hx hy, nr_set J.nr fun n => noRs_mem (J.nr n) x (List.mem_iff_getElem?.mpr ⟨q, hx⟩)⟩
theorem mod_ne {u h : Int} (h1 : 1 < h) (h5 : h ≤ 5) : 1 + u % h ≠ u ∨ u < 1 := by
  have : h = 2 ∨ h = 3 ∨ h = 4 ∨ h = 5 := by omega
  rcases this with rfl | rfl | rfl | rfl <;> omega
set_option maxHeartbeats 8000000 in
theorem tl_three (hm : Mn m w h pl) (h5 : h ≤ 5) (hh : 1 < h) (J : JOk m w h pl js) {own n : Nat} (ho : own < js.length) {x : Str} {u v : Int} (hx : x = "least" ∨ x = "closer") (hu : 1 ≤ u) (hy : ∀ (i : Nat) j, js[i]? = some j → ∃ v : Int, j = .tup [.str x, .int v, .int u]) {S F : List D} (hF : F.length ≤ 100) {g1 : G} : wp (tl44 (sg44 n m js own (.tup [.str x, .int v, .int u]) g1.length) (g1 ++ [S, F])) (Q44 m F g1) := by
  obtain ⟨r, sq⟩ := seqm hm
  have hl := J.len
  have h9 : h ≤ 9 := by omega
  have rp : ∀ (x j : D) (g : G), rep (fVar 2) (fVar 3) (fVar 0) [some x, some j, some (.tup js), some (.int (own : Nat))] g = some (.tup (js.set own x), g) := fun x j g => rep_ev (by simp) (by simp) (by simp) ho (by omega)
  have sb : ∀ a b c d e f g : Option D, subS [none, some 4, some 2, some 3] [a, b, c, d, e, f, g] = [none, e, c, d] := fun _ _ _ _ _ _ _ => rfl
  have fl : ∀ x : Str, flat (.str x) = true := fun _ => rfl
  have dp : ∀ x : Str, dep (.str x) = 0 := fun _ => by simp [dep]
  have z3 : szOk 3 = true := by decide
  have e1 : eqD (.str "sums") (.str x) = false := by rcases hx with rfl | rfl <;> decide
  have e2 : eqD (.str "name") (.str x) = false := by rcases hx with rfl | rfl <;> decide
  have e3 : eqD (.str "deeds") (.str x) = false := by rcases hx with rfl | rfl <;> decide
  have n1 : ¬ x = Str.ofString "name" := by rcases hx with rfl | rfl <;> decide
  have s1 : Str.ofString "sums" ≠ x := by rcases hx with rfl | rfl <;> decide
  have s2 : Str.ofString "name" ≠ x := by rcases hx with rfl | rfl <;> decide
  have s3 : Str.ofString "deeds" ≠ x := by rcases hx with rfl | rfl <;> decide
  have zF : szOk (F.length + 3) = true := sz_of (by omega)
  have zF3 : szOk (F.length + 3 + 1) = true := sz_of (by omega)
  have ni : oIn (.str x) (.tup [.str "least", .str "closer"]) = fun g => some (.bl true, g) := by rcases hx with rfl | rfl <;> (funext g; rfl)
  have hy' : ∀ (i : Nat) j, js[i]? = some j → ∃ b, j = .tup (.str x :: b) := fun i j hj => by obtain ⟨t, rfl⟩ := hy i j hj; exact ⟨_, rfl⟩
  have om : okMod u h = true := okMod_of (by omega)
  have rq : ∀ (a d e : Option D) (g : G), rep (fVar 2) (fVar 3) (fOp oAdd (fSlW (fVar 4) (fNoP) (fPart (fC (.int 2)))) (fMk mkTup (fCons (fOp oAdd (fC (.int 1)) (fOp (iOp okMod (· % ·)) (fOp oIx (fVar 4) (fC (.int 2))) (fOp oIx (fVar 1) (fC (.int 1))))) (fNil)))) [a, some m, some (.tup js), some (.int (own : Nat)), some (.tup [.str x, .int v, .int u]), d, e] g = some (.tup (js.set own (.tup [.str x, .int v, .int (1 + u % h)])), g) := fun a d e g => rep_ev (by simp) (by simp) (by simp [slt2, at_2, sq, at_1, om, z3]) ho (by omega)
  simp [-ev_oIn, tl44, sq, at_1, at_c, hh, z3, sb, compL, rp, e1, e2, e3, fl, dp, lstOf, oAddR, zF, zF3, ni, rq, n1]
  refine ⟨_, [.tup (js.set own (.tup (.str "sums" :: [.tup [.int 1]]))), .tup (js.set own (.tup (.str "name" :: [.int 999]))), .tup (js.set own (.tup (.str "deeds" :: [.tup [.tup [.str "look"]]]))), .tup (js.set own (.tup [.str x, .int v, .int (1 + u % h)]))], rfl, by simp, by simp, by simp, ext_of (fun t ht => ?_) (by simp)⟩
  simp only [List.mem_cons, List.not_mem_nil, or_false] at ht
  rcases ht with rfl | rfl | rfl | rfl
  · exact ⟨noJ_word hm h9 J ho hh hy' s1, nr_set J.nr fun n => by simp [noR, noRs]⟩
  · exact ⟨noJ_word hm h9 J ho hh hy' s2, nr_set J.nr fun n => by simp [noR, noRs]⟩
  · exact ⟨noJ_word hm h9 J ho hh hy' s3, nr_set J.nr fun n => by simp [noR, noRs]⟩
  · refine ⟨noJ_third hm h9 J ho hh hx hy ?_, nr_set J.nr fun n => by simp [noR, noRs]⟩
    rcases mod_ne (u := u) hh h5 with e | e
    · exact e
    · omega
theorem tl_w (hm : Mn m w h pl) (h1 : 1 ≤ h) (h5 : h ≤ 5) (J : JOk m w h pl js) {own n : Nat} {j : D} (hj : js[own]? = some j) {S F : List D} (hF : F.length ≤ 100) {g1 : G} : wp (tl44 (sg44 n m js own j g1.length) (g1 ++ [S, F])) (Q44 m F g1) := by
  have ho : own < js.length := (List.getElem?_eq_some_iff.mp hj).1
  by_cases hh : 1 < h
  · rcases J.sh with s | s | s | ⟨x, u, hx, hu, s⟩
    · obtain ⟨t, rfl⟩ := s own j hj; exact tl_deeds hm h5 hh J ho s hF
    · obtain ⟨t, rfl⟩ := s own j hj; exact tl_sums hm h5 hh J ho s hF
    · obtain ⟨t, rfl⟩ := s own j hj; exact tl_name hm h5 hh J ho s hF
    · obtain ⟨t, rfl⟩ := s own j hj; exact tl_three hm h5 hh J ho hx hu s hF
  · exact tl_1 hm hh
end
end K09
namespace K09
open PySem L3 L2 Pd
section
variable {m : D} {w : Str} {h pl : Int} {js : List D}
theorem six_no (hm : Mn m w h pl) (h1 : 1 ≤ h) (h9 : h ≤ 9) (J : JOk m w h pl js) {j0 : D} (h0 : js[0]? = some j0) : ∀ t ∈ [D.lst js, .tup (js.drop 1), .tup (js ++ js.take 1), .tup (js ++ [.non]), j0, .tup [.tup js]], NoJ m t ∧ Nr t := by
  have hl := J.len
  have hp : 0 < js.length := by omega
  have nt : Nrs (js.take 1) := fun n => noRs_of fun x hx => noRs_mem (J.nr n) x (List.mem_of_mem_take hx)
  have nd : Nrs (js.drop 1) := fun n => noRs_of fun x hx => noRs_mem (J.nr n) x (List.mem_of_mem_drop hx)
  obtain ⟨x, xs, rfl⟩ := J.word h0
  intro t ht
  simp only [List.mem_cons, List.not_mem_nil, or_false] at ht
  rcases ht with rfl | rfl | rfl | rfl | rfl | rfl
  · exact ⟨noJ_len hm rfl, fun n => by simp [noR, J.nr n]⟩
  · exact ⟨noJ_n hm (by simp; omega), fun n => by simp only [noR]; exact nd n⟩
  · exact ⟨noJ_n hm (by simp; omega), fun n => by simp only [noR]; exact noRs_app (J.nr n) (nt n)⟩
  · exact ⟨noJ_n hm (by simp; omega), fun n => by simp only [noR]; exact noRs_app (J.nr n) rfl⟩
  · refine ⟨?_, fun n => noRs_mem (J.nr n) _ (List.mem_iff_getElem?.mpr ⟨0, h0⟩)⟩
    by_cases e : ((D.str x :: xs).length : Int) = h
    · exact fun k g => okJ_bad hm e h9 (i := 0) (j := .str x) rfl rfl
    · exact noJ_n hm e
  · refine ⟨?_, fun n => by simp [noR, noRs, J.nr n]⟩
    by_cases e : h = 1
    · have hj : jobB w h pl ((0 : Nat) : Int) (.tup js) = false := by
        match js, h0 with
        | y :: ys, h0 =>
          simp at h0
          subst h0
          rfl
      exact fun k g => okJ_bad hm (by simp [e]) h9 (i := 0) (j := .tup js) rfl hj
    · exact noJ_n hm (by simp; omega)
set_option maxHeartbeats 8000000 in
theorem spoilt_w {n : Nat} {g : G} {B : Int} {Q : D × G → Prop} (hB0 : 0 ≤ B) (hB : B + 10 < 2 ^ 40) (hm : Mn m w h pl) (h1 : 1 ≤ h) (h5 : h ≤ 5) (J : JOk m w h pl js) (hd : Hd g n B) (hc : Clean g) (q : ∀ os g', (∀ t ∈ os, NoJ m t) → Nrs os → os.length ≤ 60 → Hd g' n (B + 1) → Fr n g g' → Q (.lst os, g')) : wp (tab 59 44 [.ref n, m, .tup js] g) Q := by
  obtain ⟨r, sq⟩ := seqm hm
  have hl := J.len
  refine wp_runR rfl ?_
  have rp : List.replicate (7 - 3) (none : Option D) = [none, none, none, none] := rfl
  rw [b44_eq]
  simp only [ev_fSeq, wp_bind, List.map_cons, List.map_nil, List.cons_append, List.nil_append, rp]
  simp [sq, at_1]
  refine (okT 57).w (by omega) (by omega) (by omega) hd fun a g1 a0 a1 hd1 f1 => ?_
  obtain ⟨own, rfl⟩ : ∃ own : Nat, a = own := ⟨a.toNat, by omega⟩
  have ho : own < js.length := by omega
  have hj : js[own]? = some js[own] := List.getElem?_eq_getElem ho
  have h0 : js[0]? = some (js[0]'(by omega)) := List.getElem?_eq_getElem (by omega)
  have hat : atI js (own : Int) = some js[own] := at_nat hj
  have hat0 : atI js 0 = some (js[0]'(by omega)) := at_nat (n := 0) h0
  have S := six_no hm h1 (by omega) J h0
  generalize hjj : js[own] = j at *
  generalize js[0]'(by omega) = j0 at *
  have s1 : ∀ g : G, oSlW (.tup js) (some 1) none g = some (.tup (js.drop 1), g) := fun g => sld (n := 1) (by omega)
  have s2 : ∀ g : G, oSlW (.tup js) none (some 1) g = some (.tup (js.take 1), g) := fun g => slt (n := 1) (by omega)
  have zj : szOk js.length = true := sz_of (by omega)
  have zj1 : szOk (js.length + 1) = true := sz_of (by omega)
  have zj2 : szOk (js.length + (js.take 1).length) = true := sz_of (by simp; omega)
  have z6 : szOk 6 = true := by decide
  obtain ⟨os, e43, ho43⟩ := J.odd own j hj 57 (g1 ++ [[D.lst js, .tup (js.drop 1), .tup (js ++ js.take 1), .tup (js ++ [.non]), j0, .tup [.tup js]]])
  have zo : szOk os.length = true := sz_of (by have := ho43.2.2; omega)
  have zo6 : szOk (6 + os.length) = true := sz_of (by have := ho43.2.2; omega)
  have cr := comp_rep ho (by omega) (g1 ++ [[D.lst js, .tup (js.drop 1), .tup (js ++ js.take 1), .tup (js ++ [.non]), j0, .tup [.tup js]]]) os none
  have sb : ∀ a b c d e f g : Option D, subS [none, some 2, some 3] [a, b, c, d, e, f, g] = [none, c, d] := fun _ _ _ _ _ _ _ => rfl
  generalize js.take 1 = T1 at *
  generalize js.drop 1 = D1 at *
  have tw := tl_w (own := own) (n := n) hm h1 h5 J hj (S := [D.lst js, .tup D1, .tup (js ++ T1), .tup (js ++ [.non]), j0, .tup [.tup js]]) (F := [D.lst js, .tup D1, .tup (js ++ T1), .tup (js ++ [.non]), j0, .tup [.tup js]] ++ os.map fun x => .tup (js.set own x)) (by have := ho43.2.2; simp; omega) (g1 := g1)
  have ff := f1
  simp [hat, hat0, s1, s2, zj, zj1, zj2, z6, e43, zo, cr, sb, lstOf, oAddR, zo6, at_c]
  have gl : g1.length = g.length := f1.1
  refine wp_mono tw fun r hr => ?_
  obtain ⟨p, ex, e1, e2, e3, e4, hex⟩ := hr
  rw [gl] at e2 e4
  have all : ∀ t ∈ ([D.lst js, .tup D1, .tup (js ++ T1), .tup (js ++ [.non]), j0, .tup [.tup js]] ++ os.map fun x => .tup (js.set own x)) ++ ex, NoJ m t ∧ Nr t := by
    intro t ht
    rcases List.mem_append.mp ht with ht | ht
    · rcases List.mem_append.mp ht with ht | ht
      · exact S t ht
      · obtain ⟨x, hx, rfl⟩ := List.mem_map.mp ht
        exact ⟨noJ_bad hm (by omega) J ho (ho43.1 x hx), nr_set J.nr fun n => noRs_mem (ho43.2.1 n) x hx⟩
    · exact ⟨hex.1 t ht, fun n => noRs_mem (hex.2.1 n) t ht⟩
  have hc1 := hc.fr f1 hd1
  refine ⟨p, e1, e2, _, e3, nr_list (fun t ht => (all t ht).2) _, fun x hx => ?_, ?_⟩
  · rw [e4] at hx
    exact hc1 x hx _
  · rw [e4]
    exact q _ _ (fun t ht => (all t ht).1) (nr_list fun t ht => (all t ht).2) (by have := ho43.2.2; have := hex.2.2; simp; omega) hd1 f1
def oth45 (h : Nat) : List D := [.tup ((List.range h).map fun i : Nat => D.tup [.str "name", .int (3 * (i : Int))]), .tup (List.replicate h (.tup [.str "least", .int 5, .int 1])), .tup (List.replicate h (.tup [.str "sums", .tup [.int 1, .non]])), .tup (List.replicate h (.tup [.str "closer", .int 5, .int 2]))]
theorem mul_t {x : D} {h : Nat} {g : G} (h0 : 1 ≤ h) (h5 : h ≤ 5) : oMul (.tup [x]) (.int (h : Nat)) g = some (.tup (List.replicate h x), g) := by
  have : h = 1 ∨ h = 2 ∨ h = 3 ∨ h = 4 ∨ h = 5 := by omega
  rcases this with rfl | rfl | rfl | rfl | rfl <;> rfl
def nm45 (d : D) : D := match d with | .int i => .tup [.str "name", .int (3 * i)] | _ => d
theorem comp45 (g : G) (n : Nat) : compL (gN 0) fTrue (fMk mkTup (fCons (fC (.str "name")) (fCons (fOp oMul (fC (.int 3)) (fVar 0)) fNil))) (rng 0 n) [none] g = some ((List.range n).map fun i : Nat => D.tup [.str "name", .int (3 * (i : Int))], g) := by
  have cm := compL_mapI (t := gN 0) (c := fTrue) (e := fMk mkTup (fCons (fC (.str "name")) (fCons (fOp oMul (fC (.int 3)) (fVar 0)) fNil))) (h := nm45) (fun σ => ∃ o, σ = [o]) (rng 0 n) [none] g ⟨_, rfl⟩ (by
    rintro d hd σ ⟨o, rfl⟩
    unfold rng at hd
    obtain ⟨i, _, rfl⟩ := List.mem_map.mp hd
    have m3 : ∀ j : Int, okMul 3 j = true := fun j => okMul_l (by decide) (by decide)
    have z2 : szOk 2 = true := by decide
    exact ⟨[some (.int (0 + (i : Int)))], by simp, by simp, by simp [m3, z2, nm45], ⟨_, rfl⟩⟩)
  rw [cm]
  unfold rng
  rw [List.map_map]
  congr 2
  refine List.map_congr_left fun i _ => ?_
  simp [nm45]
theorem ok45 {k : Nat} {g : G} {h : Nat} (h1 : 1 ≤ h) (h5 : h ≤ 5) : tab (k + 1) 45 [.int (h : Nat)] g = some (.lst (oth45 h), g) := by
  have m2 : ∀ (x : D) (g : G), oMul (.tup [x]) (.int (h : Nat)) g = some (.tup (List.replicate h x), g) := fun x g => mul_t h1 h5
  have zh : szOk h = true := sz_of (by omega)
  have z2 : szOk 2 = true := by decide
  have z4 : szOk 4 = true := by decide
  have c := comp45 [] h
  have sb : ∀ σ : Sg, subS [none] σ = [none] := fun _ => rfl
  have zr : szOk (rng 0 h).length = true := sz_of (by rw [rng_len]; omega)
  have run : wp (runFn false 2 1 (b_45 (tab k)) [.int (h : Nat)] []) fun r => r = (.lst (oth45 h), []) := by
    refine wp_run rfl ?_
    simp only [b_45, ev_fSeq, wp_bind, List.map_cons, List.map_nil, List.cons_append, List.nil_append]
    simp
    refine iR1_w ?_
    simp
    refine ⟨by omega, ?_⟩
    simp [zr, sb, c, zh, z2, z4, m2, oth45]
  obtain ⟨r, e, rfl⟩ := run
  refine pure_eq (by simp [noRs, noR]) e ?_ g
  simp only [noR]
  refine noRs_of fun x hx => ?_
  simp only [oth45, List.mem_cons, List.not_mem_nil, or_false] at hx
  rcases hx with rfl | rfl | rfl | rfl
  all_goals
    simp only [noR]
    refine noRs_of fun y hy => ?_
    simp at hy
  · obtain ⟨i, _, rfl⟩ := hy; simp [noR, noRs]
  · obtain ⟨_, rfl⟩ := hy; simp [noR, noRs]
  · obtain ⟨_, rfl⟩ := hy; simp [noR, noRs]
  · obtain ⟨_, rfl⟩ := hy; simp [noR, noRs]
theorem oth_no (hm : Mn m w h pl) (hw : okw w = false) {n : Nat} (hn : h = n) (h1 : 1 ≤ n) (h5 : n ≤ 5) : ∀ t ∈ oth45 n, NoJ m t := by
  have n1 : ¬ Str.ofString "sums" = Str.ofString "deeds" := by decide
  have n2 : ¬ Str.ofString "name" = Str.ofString "deeds" := by decide
  have n3 : ¬ Str.ofString "name" = Str.ofString "sums" := by decide
  have n8 : ¬ Str.ofString "closer" = Str.ofString "least" := by decide
  intro t ht
  simp only [oth45, List.mem_cons, List.not_mem_nil, or_false] at ht
  rcases ht with rfl | rfl | rfl | rfl
  · exact fun k g => okJ_bad hm (by simp [hn]) (by omega) (i := 0) (j := .tup [.str "name", .int (3 * ((0 : Nat) : Int))]) (by rw [List.getElem?_map, List.getElem?_range (by omega)]; rfl) (by simp [jobB, n2, n3, hw])
  · exact fun k g => okJ_bad hm (by simp [hn]) (by omega) (i := 0) (j := .tup [.str "least", .int 5, .int 1]) (by rw [List.getElem?_replicate, if_pos (by omega)]) (by simp [jobB, hw])
  · exact fun k g => okJ_bad hm (by simp [hn]) (by omega) (i := 0) (j := .tup [.str "sums", .tup [.int 1, .non]]) (by rw [List.getElem?_replicate, if_pos (by omega)]) (by simp [jobB, n1, hw])
  · exact fun k g => okJ_bad hm (by simp [hn]) (by omega) (i := 0) (j := .tup [.str "closer", .int 5, .int 2]) (by rw [List.getElem?_replicate, if_pos (by omega)]) (by simp [jobB, n8, hw])
end
end K09
namespace K09
open PySem L3 L2 Pd
def DJ (w : Str) (pl : Int) (l : List D) : Prop := ∀ (q : Nat) j, l[q]? = some j → ∃ row, j = .tup [.str "deeds", .tup row] ∧ RowOk w pl (q : Int) row
theorem DJ.app {w : Str} {pl : Int} {l : List D} {row : List D} (h : DJ w pl l) (hr : RowOk w pl (l.length : Int) row) : DJ w pl (l ++ [.tup [.str "deeds", .tup row]]) := by
  intro p j hp
  by_cases hpl : p < l.length
  · rw [List.getElem?_append_left hpl] at hp
    exact h p j hp
  · rw [List.getElem?_append_right (by omega)] at hp
    have e : p - l.length = 0 := by
      have := (List.getElem?_eq_some_iff.mp hp).1
      simp at this
      omega
    rw [e] at hp
    simp at hp
    subst hp
    have : p = l.length := by omega
    subst this
    exact ⟨row, rfl, hr⟩
theorem DJ.nr {w : Str} {pl : Int} {l : List D} (h : DJ w pl l) : Nrs l := fun n => noRs_of fun x hx => by
  obtain ⟨q, hq⟩ := List.mem_iff_getElem?.mp hx
  obtain ⟨row, rfl, hr⟩ := h q x hq
  simp [noR, noRs, hr.2.2 n]
theorem okJ_all {k : Nat} {g : G} {m : D} {w : Str} {h pl : Int} {l : List D} (hm : Mn m w h pl) (hl : (l.length : Int) = h) (h9 : h ≤ 9) (hj : ∀ (i : Nat) j, l[i]? = some j → jobB w h pl (i : Int) j = true) (hf : ∀ (i j : Nat) a b, j < i → l[i]? = some a → l[j]? = some b → Fel a b) : tab (k + 13) 27 [m, .tup l] g = some (.bl true, g) := by
  have hb : ((l.zipIdx 0).all fun p => jobB w h pl (p.2 : Nat) p.1) = true := List.all_eq_true.mpr fun p hp => by
    rw [List.mem_zipIdx_iff_getElem?] at hp
    exact hj p.2 p.1 (by simpa using hp)
  have := okJ_t (k := k) (g := g) (v := true) hm hl h9 (.inl (ok31 (k := k + 10) (by omega) hf))
  rw [hb] at this
  exact this
theorem okDJ {k : Nat} {g : G} {m : D} {w : Str} {h pl : Int} {l : List D} (hm : Mn m w h pl) (hl : (l.length : Int) = h) (h9 : h ≤ 9) (hd : DJ w pl l) : tab (k + 13) 27 [m, .tup l] g = some (.bl true, g) := by
  refine okJ_all hm hl h9 (fun i j hj => ?_) (fun i j a b hji ha hb => ?_)
  · obtain ⟨row, rfl, hr⟩ := hd i j hj
    have e : jobB w h pl (i : Int) (.tup [.str "deeds", .tup row]) = rowB w pl i (.tup row) := by simp [jobB]
    rw [e]
    simp only [rowB, Bool.and_eq_true, decide_eq_true_eq]
    exact ⟨hr.1, List.all_eq_true.mpr hr.2.1⟩
  · obtain ⟨ra, rfl, _⟩ := hd i a ha
    obtain ⟨rb, rfl, _⟩ := hd j b hb
    exact fel_tail (r := []) (by decide) rfl (by simp [deps]) rfl
theorem okKJ {k : Nat} {g : G} {m : D} {w : Str} {h pl way wt rd : Int} {l : List D} (hm : Mn m w h pl) (hs : w ≠ "shared") (ht : w ≠ "tables") (hl : (l.length : Int) = h) (h9 : h ≤ 9) (w1 : 1 ≤ wt) (wh : wt ≤ h) (r1 : 1 ≤ rd) (r6 : rd ≤ 6) (hd : ∀ (q : Nat) j, l[q]? = some j → KJ way wt rd q j) : tab (k + 13) 27 [m, .tup l] g = some (.bl true, g) := by
  refine okJ_all hm hl h9 (fun i j hj => ?_) (fun i j a b hji ha hb => (hd i a ha).fel hji (hd j b hb))
  have hi := (List.getElem?_eq_some_iff.mp hj).1
  have ow : okw w = true := by simp [okw, hs, ht]
  have n1 : ¬ Str.ofString "sums" = Str.ofString "deeds" := by decide
  have n2 : ¬ Str.ofString "name" = Str.ofString "deeds" := by decide
  have n3 : ¬ Str.ofString "name" = Str.ofString "sums" := by decide
  have n8 : ¬ Str.ofString "closer" = Str.ofString "least" := by decide
  have fs : ∀ v : Int, Sm v → fig (.int v) = true := fun v hv => fig9 hv
  rcases hd i j hj with ⟨_, is, h1, h2, rfl⟩ | ⟨_, v, h1, h2, rfl⟩ | ⟨_, v, h1, rfl⟩ | ⟨_, v, h1, rfl⟩
  · have : itmB (.tup (is.map oi)) = true := by
      simp only [itmB, Bool.and_eq_true, decide_eq_true_eq]
      refine ⟨by simpa using h1, List.all_eq_true.mpr fun d hd => ?_⟩
      obtain ⟨o, ho, rfl⟩ := List.mem_map.mp hd
      cases o with
      | none => rfl
      | some v => simp [oi, isNon, fig9 (h2 v ho)]
    simp [jobB, n1, ow, this]
  · have := fs v (by unfold Sm; omega)
    simp [jobB, n2, n3, ow, this]
  · simp [jobB, ow, fs v h1, within, w1, wh]
  · simp [jobB, n8, ow, fs v h1, within, r1, r6]
set_option maxHeartbeats 4000000 in
theorem djs_w {n : Nat} {h pl : Int} {w : Str} {m : D} {g : G} {B : Int} {Q : List D × G → Prop} (hB : B + 1000 < 2 ^ 40) (hB0 : 0 ≤ B) (hh1 : 1 ≤ h) (hh5 : h ≤ 5) (hm : Mn m w h pl) (hw : w ≠ "tables") (hd : Hd g n B) (hc : Clean g)
    (q : ∀ (l : List D) g', (l.length : Int) = h → DJ w pl l → Hd g' n (B + 400) → Fr n g g' → Clean g' → Q (l, g')) :
    wp (compL (gN 0) fTrue (fCall (tab 59 41) (fCons (fVar 1) (fCons (fVar 2) (fCons (fVar 0) (fCons (fCall (tab 59 35) (fCons (fVar 1) (fCons (fC (.int 13)) fNil))) fNil))))) (rng 0 h.toNat) [none, some (.ref n), some m] g) Q := by
  refine wp_compL (fun i acc σ gg => (∃ o, σ = [o, some (.ref n), some m]) ∧ Hd gg n (B + i * 70) ∧ Fr n g gg ∧ Clean gg ∧ acc.length = i ∧ DJ w pl acc) _ 0 _ _ [] ⟨⟨none, rfl⟩, hd.mono (by omega), Fr.refl, hc, rfl, fun q j hj => by simp at hj⟩ ?_ ?_
  · rintro i d acc σ gg hdi ⟨⟨o, rfl⟩, hg, fg, hcg, hl, hn⟩
    obtain ⟨hi, rfl⟩ := rng_get0 hdi
    simp
    refine (okT 58).w (by omega) (by decide) (by decide) hg fun t g1 t0 t1 h1 f1 => ?_
    have hc1 := hcg.fr f1 h1
    simp
    refine deeds_w (k := 55) (by omega) (by omega) hm hw (by omega) (by omega) t0 (by omega) h1 hc1 fun row g2 hr h2 f2 => ?_
    have hl' : ((i : Nat) : Int) = (acc.length : Int) := by omega
    rw [hl'] at hr
    exact ⟨h2.mono (by omega), (fg.trans f1).trans f2, hc1.fr f2 h2, by omega, hn.app hr⟩
  · rintro xs σ gg ⟨⟨o, rfl⟩, hg, fg, hcg, hl, hn⟩
    simp only [List.nil_append] at hl hn
    rw [rng_len] at hl hg
    exact q xs gg (by omega) hn (hg.mono (by omega)) fg hcg
def turnT : FS := (fSeq (fIf (fTest (fOp oIsnt (fCall (tab 59 27) (fCons (fVar 5) (fCons (fVar 6) (fNil)))) (fC (.bl true)))) (fRet (fC (.bl false))) (fSkip)) (fSeq (fAsg (fOp oAdd (fCall (tab 59 44) (fCons (fVar 2) (fCons (fVar 5) (fCons (fVar 6) (fNil))))) (fMk mkLst (fCons (fC .non) (fCons (fC (.bl true)) (fCons (fC (.int 0)) (fCons (fC (.str "")) (fCons (fC .edc) (fCons (fOp oMul (fMk mkTup (fCons (fC .non) (fNil))) (fVar 4)) (fCons (fOp oMul (fMk mkTup (fCons (fMk mkTup (fNil)) (fNil))) (fVar 4)) (fNil)))))))))) (gN 7)) (fIf (fOr (fNot (fTru (fCall bAll (fCons (fComp cLst (iSeq (fVar 7)) [none, some 5] (gN 0) (fTrue) (fOp oIs (fCall (tab 59 27) (fCons (fVar 1) (fCons (fVar 0) (fNil)))) (fC (.bl false)))) (fNil))))) (fTest (fOp oIsnt (fCall (tab 59 27) (fCons (fVar 5) (fCons (fVar 6) (fNil)))) (fC (.bl true))))) (fRet (fC (.bl false))) (fSkip))))
def othT : FS := (fIf (fNot (fTru (fCall bAll (fCons (fComp cLst (iSeq (fCall (tab 59 45) (fCons (fVar 4) (fNil)))) [none, some 8] (gN 0) (fTrue) (fOp oIs (fCall (tab 59 27) (fCons (fVar 1) (fCons (fVar 0) (fNil)))) (fC (.bl false)))) (fNil))))) (fRet (fC (.bl false))) (fSkip))
theorem b46_eq : b_46 (tab 59) = fSeq (fFor (iR1 (fCons (fCall bMax (fCons (fC (.int 2)) (fCons (fCall bMin (fCons (fC (.int 4)) (fCons (fCall bLen (fCons (fVar 0) (fNil))) (fNil)))) (fNil)))) (fNil))) (gN 1) (fSeq (fAsg (fCall (tab 59 34) (fCons (fVar 0) (fCons (fVar 1) (fNil)))) (gN 2)) (fSeq (fFor (iR1 (fCons (fC (.int 3)) (fNil))) (gN 3) (fSeq (fAsg (fOp oAdd (fC (.int 1)) (fCall (tab 59 35) (fCons (fVar 2) (fCons (fC (.int 5)) (fNil))))) (gN 4)) (fSeq (fAsg (fCall (tab 59 37) (fCons (fVar 2) (fCons (fVar 4) (fNil)))) (gN 5)) (fSeq (fAsg (fCall bTup (fCons (fComp cLst (iR1 (fCons (fVar 4) (fNil))) [none, some 2, some 5] (gN 0) (fTrue) (fCall (tab 59 41) (fCons (fVar 1) (fCons (fVar 2) (fCons (fVar 0) (fCons (fCall (tab 59 35) (fCons (fVar 1) (fCons (fC (.int 13)) (fNil)))) (fNil))))))) (fNil))) (gN 6)) (fSeq (fIf (fAnd (fTest (fOp oNeD (fOp oIx (fVar 5) (fC (.int 0))) (fC (.str "shared")))) (fTest (fOp oGt (fCall (tab 59 35) (fCons (fVar 2) (fCons (fC (.int 3)) (fNil)))) (fC (.int 0))))) (fAsg (fCall (tab 59 42) (fCons (fVar 2) (fCons (fVar 4) (fNil)))) (gN 6)) (fSkip)) turnT))))) (fSeq (fAsg (fOp oAdd (fC (.int 1)) (fCall (tab 59 35) (fCons (fVar 2) (fCons (fC (.int 5)) (fNil))))) (gN 4)) (fFor (iSeq (fMk mkLst (fCons (fMk mkTup (fCons (fC (.str "shared")) (fCons (fVar 4) (fCons (fC (.int 2)) (fCons (fC (.int 1)) (fCons (fC (.int 1)) (fCons (fC (.int 3)) (fNil)))))))) (fCons (fCall (tab 59 39) (fCons (fVar 2) (fCons (fVar 4) (fNil)))) (fNil))))) (gN 8) othT))))) (fRet (fC (.bl true))) := rfl
theorem jok_deeds {m : D} {w : Str} {h pl : Int} {l : List D} (hm : Mn m w h pl) (ht : w ≠ "tables") (hs : w = "shared" → pl ≤ 4) (hl : (l.length : Int) = h) (hd : DJ w pl l) : JOk m w h pl l where
  len := hl
  nr := hd.nr
  fel := fun i j a b hji ha hb => by
    obtain ⟨ra, rfl, _⟩ := hd i a ha
    obtain ⟨rb, rfl, _⟩ := hd j b hb
    exact fel_tail (r := []) (by decide) rfl (by simp [deps]) rfl
  odd := fun i j hj k g => by
    obtain ⟨row, rfl, hr⟩ := hd i j hj
    exact odd_deeds hm ht hs hr.1 hr.2.2
  sh := .inl fun i j hj => by
    obtain ⟨row, rfl, _⟩ := hd i j hj
    exact ⟨_, rfl⟩
theorem jok_built {m : D} {w : Str} {h pl way wt rd : Int} {l : List D} (hm : Mn m w h pl) (h1 : 1 ≤ h) (hl : (l.length : Int) = h) (w1 : 1 ≤ wt) (r1 : 1 ≤ rd) (hw : way = 0 ∨ way = 1 ∨ way = 2 ∨ way = 3) (hd : ∀ (q : Nat) j, l[q]? = some j → KJ way wt rd q j) : JOk m w h pl l where
  len := hl
  nr := fun n => noRs_of fun x hx => by
    obtain ⟨q, hq⟩ := List.mem_iff_getElem?.mp hx
    exact (hd q x hq).nr n
  fel := fun i j a b hji ha hb => (hd i a ha).fel hji (hd j b hb)
  odd := fun i j hj k g => by
    rcases hd i j hj with ⟨_, is, h1, h2, rfl⟩ | ⟨_, v, h1, h2, rfl⟩ | ⟨_, v, h2, rfl⟩ | ⟨_, v, h2, rfl⟩
    · exact odd_sums hm (by simp; omega) (fun n => is_noR is)
    · exact odd_name hm
    · exact odd_three hm h1 (.inl rfl)
    · exact odd_three hm h1 (.inr rfl)
  sh := by
    rcases hw with rfl | rfl | rfl | rfl
    · refine .inr (.inl fun i j hj => ?_)
      rcases hd i j hj with ⟨_, is, _, _, rfl⟩ | ⟨e, _⟩ | ⟨e, _⟩ | ⟨e, _⟩
      · exact ⟨_, rfl⟩
      all_goals (exfalso; omega)
    · refine .inr (.inr (.inl fun i j hj => ?_))
      rcases hd i j hj with ⟨e, _⟩ | ⟨_, v, _, _, rfl⟩ | ⟨e, _⟩ | ⟨e, _⟩
      · exfalso; omega
      · exact ⟨_, rfl⟩
      all_goals (exfalso; omega)
    · refine .inr (.inr (.inr ⟨"least", wt, .inl rfl, w1, fun i j hj => ?_⟩))
      rcases hd i j hj with ⟨e, _⟩ | ⟨e, _⟩ | ⟨_, v, _, rfl⟩ | ⟨e, _⟩
      · exfalso; omega
      · exfalso; omega
      · exact ⟨_, rfl⟩
      · exfalso; omega
    · refine .inr (.inr (.inr ⟨"closer", rd, .inr rfl, r1, fun i j hj => ?_⟩))
      rcases hd i j hj with ⟨e, _⟩ | ⟨e, _⟩ | ⟨e, _⟩ | ⟨_, v, _, rfl⟩
      · exfalso; omega
      · exfalso; omega
      · exfalso; omega
      · exact ⟨_, rfl⟩
theorem comp_no {m : D} {g : G} : ∀ (os : List D) (o : Option D), (∀ t ∈ os, NoJ m t) → compL (gN 0) fTrue (fOp oIs (fCall (tab 59 27) (fCons (fVar 1) (fCons (fVar 0) fNil))) (fC (.bl false))) os [o, some m] g = some (os.map fun _ => .bl true, g)
  | [], o, _ => rfl
  | x :: os, o, h => by
    have := comp_no (m := m) (g := g) os (some x) fun t ht => h t (by simp [ht])
    have e := h x (by simp) 46 g
    have bf : isBl false (.bl false) = true := rfl
    simp [compL, this, e, bf]
theorem bools_t (os : List D) : bools (os.map fun _ => D.bl true) = some (os.map fun _ => true) := bools_map (fun _ => true) os
section
variable {m : D} {w : Str} {h pl : Int} {js : List D}
theorem extra_no (hm : Mn m w h pl) {n : Nat} (hn : h = n) (h1 : 1 ≤ n) (h5 : n ≤ 5) : ∀ t ∈ [D.non, .bl true, .int 0, .str "", .edc, .tup (List.replicate n .non), .tup (List.replicate n (.tup []))], NoJ m t := by
  intro t ht
  simp only [List.mem_cons, List.not_mem_nil, or_false] at ht
  rcases ht with rfl | rfl | rfl | rfl | rfl | rfl | rfl
  · exact noJ_len hm rfl
  · exact noJ_len hm rfl
  · exact noJ_len hm rfl
  · exact noJ_len hm rfl
  · exact noJ_len hm rfl
  · exact fun k g => okJ_bad hm (by simp [hn]) (by omega) (i := 0) (j := .non) (by rw [List.getElem?_replicate, if_pos (by omega)]) rfl
  · exact fun k g => okJ_bad hm (by simp [hn]) (by omega) (i := 0) (j := .tup []) (by rw [List.getElem?_replicate, if_pos (by omega)]) rfl
set_option maxHeartbeats 8000000 in
theorem turn_w {n hn : Nat} {g : G} {B : Int} {a b c o7 o8 : Option D} {Q : L3.F × Sg × G → Prop} (hB0 : 0 ≤ B) (hB : B + 10 < 2 ^ 40) (hm : Mn m w h pl) (he : h = hn) (h1 : 1 ≤ h) (h5 : h ≤ 5) (J : JOk m w h pl js) (e27 : ∀ g, tab 59 27 [m, .tup js] g = some (.bl true, g)) (hd : Hd g n B) (hc : Clean g) (q : ∀ o7 g', Hd g' n (B + 1) → Clean g' → Q (.nx, [a, b, some (.ref n), c, some (.int (hn : Nat)), some m, some (.tup js), o7, o8], g')) : wp (turnT [a, b, some (.ref n), c, some (.int (hn : Nat)), some m, some (.tup js), o7, o8] g) Q := by
  have bt : isBl true (.bl true) = true := rfl
  have m2 : ∀ (x : D) (g : G), oMul (.tup [x]) (.int (hn : Nat)) g = some (.tup (List.replicate hn x), g) := fun x g => mul_t (by omega) (by omega)
  have z7 : szOk 7 = true := by decide
  have sb : ∀ a b c d e f g h i : Option D, subS [none, some 5] [a, b, c, d, e, f, g, h, i] = [none, f] := fun _ _ _ _ _ _ _ _ _ => rfl
  simp [turnT, e27, bt]
  refine spoilt_w hB0 hB hm h1 h5 J hd hc fun os g' hno hnr hlen hd' f' => ?_
  have zo : szOk (os.length + 7) = true := sz_of (by omega)
  have hall : ∀ t ∈ os ++ [D.non, .bl true, .int 0, .str "", .edc, .tup (List.replicate hn .non), .tup (List.replicate hn (.tup []))], NoJ m t := by
    intro t ht
    rcases List.mem_append.mp ht with ht | ht
    · exact hno t ht
    · exact extra_no hm he (by omega) (by omega) t ht
  have hlen2 : (os ++ [D.non, .bl true, .int 0, .str "", .edc, .tup (List.replicate hn .non), .tup (List.replicate hn (.tup []))]).length = os.length + 7 := by simp
  have cn := comp_no (g := g') _ none hall
  have bt2 := bools_t (os ++ [D.non, .bl true, .int 0, .str "", .edc, .tup (List.replicate hn .non), .tup (List.replicate hn (.tup []))])
  simp [m2, z7, zo]
  generalize os ++ [D.non, .bl true, .int 0, .str "", .edc, .tup (List.replicate hn .non), .tup (List.replicate hn (.tup []))] = os2 at *
  have z2 : szOk os2.length = true := by rw [hlen2]; exact zo
  simp [z2, sb, cn, bt2, e27, bt]
  exact q _ _ hd' (hc.fr f' hd')
theorem way_of {way wt rd : Int} {l : List D} (hp : 0 < l.length) (hd : ∀ (q : Nat) j, l[q]? = some j → KJ way wt rd q j) : way = 0 ∨ way = 1 ∨ way = 2 ∨ way = 3 := by
  rcases hd 0 _ (List.getElem?_eq_getElem hp) with ⟨e, _⟩ | ⟨e, _⟩ | ⟨e, _⟩ | ⟨e, _⟩
  · exact .inl e
  · exact .inr (.inl e)
  · exact .inr (.inr (.inl e))
  · exact .inr (.inr (.inr e))
theorem oth_w {hn : Nat} {g : G} {a b c d f o6 o7 : Option D} (hm : Mn m w h pl) (hw : okw w = false) (he : h = hn) (h1 : 1 ≤ hn) (h5 : hn ≤ 5) : othT [a, b, c, d, some (.int (hn : Nat)), f, o6, o7, some m] g = some (.nx, [a, b, c, d, some (.int (hn : Nat)), f, o6, o7, some m], g) := by
  have e45 := ok45 (k := 58) (g := g) h1 h5
  have cn := comp_no (g := g) _ none (oth_no hm hw he h1 h5)
  have bt2 := bools_t (oth45 hn)
  have z : szOk (oth45 hn).length = true := by simp [oth45] <;> decide
  have sb : ∀ a b c d e f g h i : Option D, subS [none, some 8] [a, b, c, d, e, f, g, h, i] = [none, i] := fun _ _ _ _ _ _ _ _ _ => rfl
  generalize oth45 hn = os at *
  simp [othT, e45, z, sb, cn, bt2]
theorem mn_shared {h : Int} (h1 : 1 ≤ h) : Mn (.tup [.str "shared", .int h, .int 2, .int 1, .int 1, .int 3]) "shared" h 2 := ⟨⟨_, rfl⟩, .inl ⟨rfl, _, rfl⟩, by decide, by decide, fun n => by simp [noR, noRs]⟩
end
set_option maxHeartbeats 8000000 in
theorem law_spec (ns : List Int) (hl : ns.length ≤ 63) : ∃ g', tab 60 46 [.lst (ns.map .int)] [] = some (.bl true, g') := by
  have main : wp (tab 60 46 [.lst (ns.map .int)] []) fun r => r.1 = .bl true := by
    refine wp_runS rfl ?_
    rw [b46_eq]
    simp only [ev_fSeq, wp_bind, ev_fFor]
    refine iR1_w ?_
    simp
    refine ⟨by split <;> omega, by split <;> omega, ?_⟩
    refine wp_forL (fun i σ g => (∃ o1 o2 o3 o4 o5 o6 o7 o8, σ = [some (.lst (ns.map .int)), o1, o2, o3, o4, o5, o6, o7, o8]) ∧ Clean g) _ 0 _ _ ⟨⟨_, _, _, _, _, _, _, _, rfl⟩, fun x hx => by simp at hx⟩ ?_ ?_
    · rintro j d σ g hd ⟨⟨o1, o2, o3, o4, o5, o6, o7, o8, rfl⟩, hc⟩
      obtain ⟨hj, rfl⟩ := rng_get0 hd
      have hj8 : j < 10 := by
        revert hj; split <;> omega
      simp
      refine (okH 58).w (by omega) fun xs hh => ?_
      have hc1 := hc.app hh
      simp
      refine iR1_w ?_
      simp
      generalize g.length = n at *
      refine wp_forL (fun i σ gg => (∃ o3 o4 o5 o6 o7 o8, σ = [some (.lst (ns.map .int)), some (.int j), some (.ref n), o3, o4, o5, o6, o7, o8]) ∧ Hd gg n (i * 2000) ∧ Clean gg) _ 0 _ _ ⟨⟨_, _, _, _, _, _, rfl⟩, by simpa using hh, hc1⟩ ?_ ?_
      · rintro i d σ gg hd2 ⟨⟨o3, o4, o5, o6, o7, o8, rfl⟩, hh2, hc2⟩
        obtain ⟨hi, rfl⟩ := rng_get0 hd2
        rw [Nat.zero_add] at *
        simp
        refine (okT 58).w (by omega) (by decide) (by decide) hh2 fun r g1 r0 r1 h1 f1 => ?_
        obtain ⟨hn, hhn⟩ : ∃ hn : Nat, 1 + r = hn := ⟨(1 + r).toNat, by omega⟩
        simp
        rw [hhn]
        refine manner_w (k := 56) (by omega) (by omega) (by omega) (by omega) h1 fun m w pl g2 hm hw h2 f2 => ?_
        have hc3 := (hc2.fr f1 h1).fr f2 h2
        simp
        refine iR1_w ?_
        simp
        refine ⟨by omega, ?_⟩
        have z0 : szOk (rng 0 hn).length = true := sz_of (by rw [rng_len]; omega)
        simp [z0]
        have dj := fun Q q => djs_w (n := n) (h := (hn : Int)) (B := i * 2000 + 1 + 7) (Q := Q) (by omega) (by omega) (by omega) (by omega) hm hw.1 h2 hc3 q
        simp only [Int.toNat_natCast] at dj
        refine dj _ fun l g3 hll hdj h3 f3 hc4 => ?_
        have zl : szOk l.length = true := sz_of (by omega)
        have e27 : ∀ g, tab 59 27 [m, .tup l] g = some (.bl true, g) := fun g => okDJ (k := 46) hm hll (by omega) hdj
        have J := jok_deeds hm hw.1 hw.2 hll hdj
        obtain ⟨rr, sq⟩ := seqm hm
        simp [zl, sq, at_c, eqD, flat, dep]
        by_cases hs : w = "shared"
        · refine .inl ⟨hs, ?_⟩
          exact turn_w (by omega) (by omega) hm rfl (by omega) (by omega) J e27 h3 hc4 fun o7 g' hd' hc' => ⟨⟨_, _, _, _, _, _, rfl⟩, hd'.mono (by omega), hc'⟩
        · refine .inr ⟨hs, ?_⟩
          refine (okT 58).w (by omega) (by decide) (by decide) h3 fun b g4 b0 b1 h4 f4 => ?_
          have hc5 := hc4.fr f4 h4
          by_cases hb : 0 < b
          · simp [hb]
            refine built_w (k := 56) (by omega) (by omega) (by omega) (by omega) h4 hc5 fun l' way wt rd g5 hll' w1 wh r1' r6 hk h5 f5 => ?_
            have e27' : ∀ g, tab 59 27 [m, .tup l'] g = some (.bl true, g) := fun g => okKJ (k := 46) hm hs hw.1 hll' (by omega) w1 wh r1' r6 hk
            have J' := jok_built hm (by omega) hll' w1 r1' (way_of (by omega) hk) hk
            simp
            exact turn_w (by omega) (by omega) hm rfl (by omega) (by omega) J' e27' h5 (hc5.fr f5 h5) fun o7 g' hd' hc' => ⟨⟨_, _, _, _, _, _, rfl⟩, hd'.mono (by omega), hc'⟩
          · simp [hb]
            exact turn_w (by omega) (by omega) hm rfl (by omega) (by omega) J e27 h4 hc5 fun o7 g' hd' hc' => ⟨⟨_, _, _, _, _, _, rfl⟩, hd'.mono (by omega), hc'⟩
      · rintro σ gg ⟨⟨o3, o4, o5, o6, o7, o8, rfl⟩, hh2, hc2⟩
        rw [rng_len] at hh2
        simp
        refine (okT 58).w (by omega) (by decide) (by decide) hh2 fun r g1 r0 r1 h1 f1 => ?_
        obtain ⟨hn, hhn⟩ : ∃ hn : Nat, 1 + r = hn := ⟨(1 + r).toNat, by omega⟩
        simp
        rw [hhn]
        refine tables_w (k := 56) (by omega) (by omega) (by omega) (by omega) h1 (hc2.fr f1 h1) fun m g2 hm h2 f2 => ?_
        have hc3 := (hc2.fr f1 h1).fr f2 h2
        have e1 := fun (a b c d f o6 o7 : Option D) (g : G) => oth_w (a := a) (b := b) (c := c) (d := d) (f := f) (o6 := o6) (o7 := o7) (g := g) (mn_shared (h := (hn : Int)) (by omega)) rfl rfl (by omega) (by omega)
        have e2 := fun (a b c d f o6 o7 : Option D) (g : G) => oth_w (a := a) (b := b) (c := c) (d := d) (f := f) (o6 := o6) (o7 := o7) (g := g) hm rfl rfl (by omega) (by omega)
        have z2 : szOk 2 = true := by decide
        have z6 : szOk 6 = true := by decide
        simp [z2, z6, forL, e1, e2]
        exact hc3
    · rintro σ g ⟨⟨o1, o2, o3, o4, o5, o6, o7, o8, rfl⟩, hc⟩
      simp [noR]
  obtain ⟨⟨d, g'⟩, e, h⟩ := main
  dsimp only at h
  subst h
  exact ⟨g', e⟩
end K09
namespace K09
open PySem PySem.Spec PyProof.Rows L2 L3
structure An (w : World) (K : PySem.W.Frag) (mg : Str → Option Value) (f : Nat → Addr) (fd : Nat → FuncData) : Prop where
  f_1 : Fun K "is_whole" "is_whole" (top 1) (f 1) (fd 1)
  q_1 : Fa K mg "is_whole" (f 1) (fd 1) P_1
  f_2 : Fun K "is_within" "is_within" (top 2) (f 2) (fd 2)
  q_2 : Fa K mg "is_within" (f 2) (fd 2) P_2
  f_3 : Fun K "is_figured" "is_figured" (top 3) (f 3) (fd 3)
  q_3 : Fa K mg "is_figured" (f 3) (fd 3) P_3
  f_4 : Fun K "is_tuple_of" "is_tuple_of" (top 4) (f 4) (fd 4)
  q_4 : Fa K mg "is_tuple_of" (f 4) (fd 4) P_4
  f_5 : Fun K "word_of" "word_of" (top 5) (f 5) (fd 5)
  q_5 : Fa K mg "word_of" (f 5) (fd 5) P_5
  f_8 : Fun K "number_of" "number_of" (top 8) (f 8) (fd 8)
  q_8 : Fa K mg "number_of" (f 8) (fd 8) P_8
  f_9 : Fun K "hands_of" "hands_of" (top 9) (f 9) (fd 9)
  q_9 : Fa K mg "hands_of" (f 9) (fd 9) P_9
  f_10 : Fun K "places_of" "places_of" (top 10) (f 10) (fd 10)
  q_10 : Fa K mg "places_of" (f 10) (fd 10) P_10
  f_15 : Fun K "is_value" "is_value" (top 15) (f 15) (fd 15)
  q_15 : Fa K mg "is_value" (f 15) (fd 15) P_15
  f_16 : Fun K "is_value_within" "is_value_within" (top 16) (f 16) (fd 16)
  q_16 : Fa K mg "is_value_within" (f 16) (fd 16) P_16
  f_18 : Fun K "is_deed" "is_deed" (top 18) (f 18) (fd 18)
  q_18 : Fa K mg "is_deed" (f 18) (fd 18) P_18
  f_19 : Fun K "may_put_at" "may_put_at" (top 19) (f 19) (fd 19)
  q_19 : Fa K mg "may_put_at" (f 19) (fd 19) P_19
  f_20 : Fun K "may_put" "may_put" (top 20) (f 20) (fd 20)
  q_20 : Fa K mg "may_put" (f 20) (fd 20) P_20
  f_27 : Fun K "is_jobs" "is_jobs" (top 27) (f 27) (fd 27)
  q_27 : Fa K mg "is_jobs" (f 27) (fd 27) P_27
  f_28 : Fun K "is_job" "is_job" (top 28) (f 28) (fd 28)
  q_28 : Fa K mg "is_job" (f 28) (fd 28) P_28
  f_29 : Fun K "is_row_of_deeds" "is_row_of_deeds" (top 29) (f 29) (fd 29)
  q_29 : Fa K mg "is_row_of_deeds" (f 29) (fd 29) P_29
  f_30 : Fun K "are_items" "are_items" (top 30) (f 30) (fd 30)
  q_30 : Fa K mg "are_items" (f 30) (fd 30) P_30
  f_31 : Fun K "go_together" "go_together" (top 31) (f 31) (fd 31)
  q_31 : Fa K mg "go_together" (f 31) (fd 31) P_31
  f_32 : Fun K "are_fellows" "are_fellows" (top 32) (f 32) (fd 32)
  q_32 : Fa K mg "are_fellows" (f 32) (fd 32) P_32
  f_34 : Fun K "_law_hand" "_law_hand" (top 34) (f 34) (fd 34)
  q_34 : Fa K mg "_law_hand" (f 34) (fd 34) P_34
  f_35 : Fun K "_law_take" "_law_take" (top 35) (f 35) (fd 35)
  q_35 : Fa K mg "_law_take" (f 35) (fd 35) P_35
  f_36 : Fun K "_law_pick" "_law_pick" (top 36) (f 36) (fd 36)
  q_36 : Fa K mg "_law_pick" (f 36) (fd 36) P_36
  f_37 : Fun K "_law_manner" "_law_manner" (top 37) (f 37) (fd 37)
  q_37 : Fa K mg "_law_manner" (f 37) (fd 37) P_37
  f_38 : Fun K "_law_table" "_law_table" (top 38) (f 38) (fd 38)
  q_38 : Fa K mg "_law_table" (f 38) (fd 38) P_38
  f_39 : Fun K "_law_tables" "_law_tables" (top 39) (f 39) (fd 39)
  q_39 : Fa K mg "_law_tables" (f 39) (fd 39) P_39
  f_40 : Fun K "_law_plain_value" "_law_plain_value" (top 40) (f 40) (fd 40)
  q_40 : Fa K mg "_law_plain_value" (f 40) (fd 40) P_40
  f_41 : Fun K "_law_deeds" "_law_deeds" (top 41) (f 41) (fd 41)
  q_41 : Fa K mg "_law_deeds" (f 41) (fd 41) P_41
  f_42 : Fun K "_law_built" "_law_built" (top 42) (f 42) (fd 42)
  q_42 : Fa K mg "_law_built" (f 42) (fd 42) P_42
  f_43 : Fun K "_law_odd_jobs" "_law_odd_jobs" (top 43) (f 43) (fd 43)
  q_43 : Fa K mg "_law_odd_jobs" (f 43) (fd 43) P_43
  f_44 : Fun K "_law_spoilt" "_law_spoilt" (top 44) (f 44) (fd 44)
  q_44 : Fa K mg "_law_spoilt" (f 44) (fd 44) P_44
  f_45 : Fun K "_law_others" "_law_others" (top 45) (f 45) (fd 45)
  q_45 : Fa K mg "_law_others" (f 45) (fd 45) P_45
  f_46 : Fun K "law" "law" (top 46) (f 46) (fd 46)
  q_46 : Fa K mg "law" (f 46) (fd 46) P_46
  z_all : mg "all" = none
  z_bool : mg "bool" = none
  z_enumerate : mg "enumerate" = none
  z_int : mg "int" = none
  z_isinstance : mg "isinstance" = none
  z_len : mg "len" = none
  z_list : mg "list" = none
  z_max : mg "max" = none
  z_min : mg "min" = none
  z_range : mg "range" = none
  z_set : mg "set" = none
  z_sorted : mg "sorted" = none
  z_str : mg "str" = none
  z_tuple : mg "tuple" = none
  c_MOST_DEEDS : ∃ t, mg "MOST_DEEDS" = some (.int 12 t)
  c_MOST_DEEP : ∃ t, mg "MOST_DEEP" = some (.int 3 t)
  c_MOST_ITEMS : ∃ t, mg "MOST_ITEMS" = some (.int 8 t)
  c_MOST_PARTS : ∃ t, mg "MOST_PARTS" = some (.int 8 t)
  c_MOST_ROUNDS : ∃ t, mg "MOST_ROUNDS" = some (.int 6 t)
  c_NINE_FIGURES : ∃ t, mg "NINE_FIGURES" = some (.int 999999999 t)
  c_TWELVE_FIGURES : ∃ t, mg "TWELVE_FIGURES" = some (.int 999999999999 t)
  t_LENGTHS : ∃ a, mg "LENGTHS" = some (.ref a) ∧ DctAt w K a tbl_LENGTHS
  t_NUMBERS : ∃ a, mg "NUMBERS" = some (.ref a) ∧ DctAt w K a tbl_NUMBERS
theorem cn_zero {P : Program} {w : World} {K : PySem.W.Frag} {mg : Str → Option Value} {base : Heap} {f : Nat → Addr} {fd : Nat → FuncData} (A : An w K mg f fd) : Cn P w K mg base 0 f fd where
  o_1 := fn_none fun _ _ => rfl
  q_1 := A.q_1
  o_2 := fn_none fun _ _ => rfl
  q_2 := A.q_2
  o_3 := fn_none fun _ _ => rfl
  q_3 := A.q_3
  o_4 := fn_none fun _ _ => rfl
  q_4 := A.q_4
  o_5 := fn_none fun _ _ => rfl
  q_5 := A.q_5
  o_8 := fn_none fun _ _ => rfl
  q_8 := A.q_8
  o_9 := fn_none fun _ _ => rfl
  q_9 := A.q_9
  o_10 := fn_none fun _ _ => rfl
  q_10 := A.q_10
  o_15 := fn_none fun _ _ => rfl
  q_15 := A.q_15
  o_16 := fn_none fun _ _ => rfl
  q_16 := A.q_16
  o_18 := fn_none fun _ _ => rfl
  q_18 := A.q_18
  o_19 := fn_none fun _ _ => rfl
  q_19 := A.q_19
  o_20 := fn_none fun _ _ => rfl
  q_20 := A.q_20
  o_27 := fn_none fun _ _ => rfl
  q_27 := A.q_27
  o_28 := fn_none fun _ _ => rfl
  q_28 := A.q_28
  o_29 := fn_none fun _ _ => rfl
  q_29 := A.q_29
  o_30 := fn_none fun _ _ => rfl
  q_30 := A.q_30
  o_31 := fn_none fun _ _ => rfl
  q_31 := A.q_31
  o_32 := fn_none fun _ _ => rfl
  q_32 := A.q_32
  o_34 := fn_none fun _ _ => rfl
  q_34 := A.q_34
  o_35 := fn_none fun _ _ => rfl
  q_35 := A.q_35
  o_36 := fn_none fun _ _ => rfl
  q_36 := A.q_36
  o_37 := fn_none fun _ _ => rfl
  q_37 := A.q_37
  o_38 := fn_none fun _ _ => rfl
  q_38 := A.q_38
  o_39 := fn_none fun _ _ => rfl
  q_39 := A.q_39
  o_40 := fn_none fun _ _ => rfl
  q_40 := A.q_40
  o_41 := fn_none fun _ _ => rfl
  q_41 := A.q_41
  o_42 := fn_none fun _ _ => rfl
  q_42 := A.q_42
  o_43 := fn_none fun _ _ => rfl
  q_43 := A.q_43
  o_44 := fn_none fun _ _ => rfl
  q_44 := A.q_44
  o_45 := fn_none fun _ _ => rfl
  q_45 := A.q_45
  o_46 := fn_none fun _ _ => rfl
  q_46 := A.q_46
  z_all := A.z_all
  z_bool := A.z_bool
  z_enumerate := A.z_enumerate
  z_int := A.z_int
  z_isinstance := A.z_isinstance
  z_len := A.z_len
  z_list := A.z_list
  z_max := A.z_max
  z_min := A.z_min
  z_range := A.z_range
  z_set := A.z_set
  z_sorted := A.z_sorted
  z_str := A.z_str
  z_tuple := A.z_tuple
  c_MOST_DEEDS := A.c_MOST_DEEDS
  c_MOST_DEEP := A.c_MOST_DEEP
  c_MOST_ITEMS := A.c_MOST_ITEMS
  c_MOST_PARTS := A.c_MOST_PARTS
  c_MOST_ROUNDS := A.c_MOST_ROUNDS
  c_NINE_FIGURES := A.c_NINE_FIGURES
  c_TWELVE_FIGURES := A.c_TWELVE_FIGURES
  t_LENGTHS := A.t_LENGTHS
  t_NUMBERS := A.t_NUMBERS
theorem cn_succ {P : Program} {w : World} {K : PySem.W.Frag} {mg : Str → Option Value} {base : Heap} {k : Nat} {f : Nat → Addr} {fd : Nat → FuncData} (A : An w K mg f fd) (C : Cn P w K mg base k f fd) : Cn P w K mg base (k + 1) f fd where
  o_1 := fn_ok (N := N_1) (keep := false) (b := b_1 (tab k)) A.f_1 sc_1 (by decide) fun cdv A outer s H E hr => body_1 C hr
  q_1 := A.q_1
  o_2 := fn_ok (N := N_2) (keep := false) (b := b_2 (tab k)) A.f_2 sc_2 (by decide) fun cdv A outer s H E hr => body_2 C hr
  q_2 := A.q_2
  o_3 := fn_ok (N := N_3) (keep := false) (b := b_3 (tab k)) A.f_3 sc_3 (by decide) fun cdv A outer s H E hr => body_3 C hr
  q_3 := A.q_3
  o_4 := fn_ok (N := N_4) (keep := false) (b := b_4 (tab k)) A.f_4 sc_4 (by decide) fun cdv A outer s H E hr => body_4 C hr
  q_4 := A.q_4
  o_5 := fn_ok (N := N_5) (keep := false) (b := b_5 (tab k)) A.f_5 sc_5 (by decide) fun cdv A outer s H E hr => body_5 C hr
  q_5 := A.q_5
  o_8 := fn_ok (N := N_8) (keep := false) (b := b_8 (tab k)) A.f_8 sc_8 (by decide) fun cdv A outer s H E hr => body_8 C hr
  q_8 := A.q_8
  o_9 := fn_ok (N := N_9) (keep := false) (b := b_9 (tab k)) A.f_9 sc_9 (by decide) fun cdv A outer s H E hr => body_9 C hr
  q_9 := A.q_9
  o_10 := fn_ok (N := N_10) (keep := false) (b := b_10 (tab k)) A.f_10 sc_10 (by decide) fun cdv A outer s H E hr => body_10 C hr
  q_10 := A.q_10
  o_15 := fn_ok (N := N_15) (keep := false) (b := b_15 (tab k)) A.f_15 sc_15 (by decide) fun cdv A outer s H E hr => body_15 C hr
  q_15 := A.q_15
  o_16 := fn_ok (N := N_16) (keep := false) (b := b_16 (tab k)) A.f_16 sc_16 (by decide) fun cdv A outer s H E hr => body_16 C hr
  q_16 := A.q_16
  o_18 := fn_ok (N := N_18) (keep := false) (b := b_18 (tab k)) A.f_18 sc_18 (by decide) fun cdv A outer s H E hr => body_18 C hr
  q_18 := A.q_18
  o_19 := fn_ok (N := N_19) (keep := false) (b := b_19 (tab k)) A.f_19 sc_19 (by decide) fun cdv A outer s H E hr => body_19 C hr
  q_19 := A.q_19
  o_20 := fn_ok (N := N_20) (keep := false) (b := b_20 (tab k)) A.f_20 sc_20 (by decide) fun cdv A outer s H E hr => body_20 C hr
  q_20 := A.q_20
  o_27 := fn_ok (N := N_27) (keep := false) (b := b_27 (tab k)) A.f_27 sc_27 (by decide) fun cdv A outer s H E hr => body_27 C hr
  q_27 := A.q_27
  o_28 := fn_ok (N := N_28) (keep := false) (b := b_28 (tab k)) A.f_28 sc_28 (by decide) fun cdv A outer s H E hr => body_28 C hr
  q_28 := A.q_28
  o_29 := fn_ok (N := N_29) (keep := false) (b := b_29 (tab k)) A.f_29 sc_29 (by decide) fun cdv A outer s H E hr => body_29 C hr
  q_29 := A.q_29
  o_30 := fn_ok (N := N_30) (keep := false) (b := b_30 (tab k)) A.f_30 sc_30 (by decide) fun cdv A outer s H E hr => body_30 C hr
  q_30 := A.q_30
  o_31 := fn_ok (N := N_31) (keep := false) (b := b_31 (tab k)) A.f_31 sc_31 (by decide) fun cdv A outer s H E hr => body_31 C hr
  q_31 := A.q_31
  o_32 := fn_ok (N := N_32) (keep := false) (b := b_32 (tab k)) A.f_32 sc_32 (by decide) fun cdv A outer s H E hr => body_32 C hr
  q_32 := A.q_32
  o_34 := fn_ok (N := N_34) (keep := true) (b := b_34 (tab k)) A.f_34 sc_34 (by decide) fun cdv A outer s H E hr => body_34 C hr
  q_34 := A.q_34
  o_35 := fn_ok (N := N_35) (keep := false) (b := b_35 (tab k)) A.f_35 sc_35 (by decide) fun cdv A outer s H E hr => body_35 C hr
  q_35 := A.q_35
  o_36 := fn_ok (N := N_36) (keep := false) (b := b_36 (tab k)) A.f_36 sc_36 (by decide) fun cdv A outer s H E hr => body_36 C hr
  q_36 := A.q_36
  o_37 := fn_ok (N := N_37) (keep := false) (b := b_37 (tab k)) A.f_37 sc_37 (by decide) fun cdv A outer s H E hr => body_37 C hr
  q_37 := A.q_37
  o_38 := fn_ok (N := N_38) (keep := false) (b := b_38 (tab k)) A.f_38 sc_38 (by decide) fun cdv A outer s H E hr => body_38 C hr
  q_38 := A.q_38
  o_39 := fn_ok (N := N_39) (keep := false) (b := b_39 (tab k)) A.f_39 sc_39 (by decide) fun cdv A outer s H E hr => body_39 C hr
  q_39 := A.q_39
  o_40 := fn_ok (N := N_40) (keep := false) (b := b_40 (tab k)) A.f_40 sc_40 (by decide) fun cdv A outer s H E hr => body_40 C hr
  q_40 := A.q_40
  o_41 := fn_ok (N := N_41) (keep := false) (b := b_41 (tab k)) A.f_41 sc_41 (by decide) fun cdv A outer s H E hr => body_41 C hr
  q_41 := A.q_41
  o_42 := fn_ok (N := N_42) (keep := false) (b := b_42 (tab k)) A.f_42 sc_42 (by decide) fun cdv A outer s H E hr => body_42 C hr
  q_42 := A.q_42
  o_43 := fn_pure (fn_ok (N := N_43) (keep := false) (b := b_43 (tab k)) A.f_43 sc_43 (by decide) fun cdv A outer s H E hr => body_43 C hr)
  q_43 := A.q_43
  o_44 := fn_ok (N := N_44) (keep := false) (b := b_44 (tab k)) A.f_44 sc_44 (by decide) fun cdv A outer s H E hr => body_44 C hr
  q_44 := A.q_44
  o_45 := fn_pure (fn_ok (N := N_45) (keep := false) (b := b_45 (tab k)) A.f_45 sc_45 (by decide) fun cdv A outer s H E hr => body_45 C hr)
  q_45 := A.q_45
  o_46 := fn_ok (N := N_46) (keep := false) (b := b_46 (tab k)) A.f_46 sc_46 (by decide) fun cdv A outer s H E hr => body_46 C hr
  q_46 := A.q_46
  z_all := A.z_all
  z_bool := A.z_bool
  z_enumerate := A.z_enumerate
  z_int := A.z_int
  z_isinstance := A.z_isinstance
  z_len := A.z_len
  z_list := A.z_list
  z_max := A.z_max
  z_min := A.z_min
  z_range := A.z_range
  z_set := A.z_set
  z_sorted := A.z_sorted
  z_str := A.z_str
  z_tuple := A.z_tuple
  c_MOST_DEEDS := A.c_MOST_DEEDS
  c_MOST_DEEP := A.c_MOST_DEEP
  c_MOST_ITEMS := A.c_MOST_ITEMS
  c_MOST_PARTS := A.c_MOST_PARTS
  c_MOST_ROUNDS := A.c_MOST_ROUNDS
  c_NINE_FIGURES := A.c_NINE_FIGURES
  c_TWELVE_FIGURES := A.c_TWELVE_FIGURES
  t_LENGTHS := A.t_LENGTHS
  t_NUMBERS := A.t_NUMBERS
theorem cn_all {P : Program} {w : World} {K : PySem.W.Frag} {mg : Str → Option Value} {base : Heap} {f : Nat → Addr} {fd : Nat → FuncData} (A : An w K mg f fd) : ∀ k, Cn P w K mg base k f fd
  | 0 => cn_zero A
  | k + 1 => cn_succ A (cn_all A k)
def spLaw (K : PySem.W.Frag) : Sp := fun vs H Q _ => ∃ (a : Addr) (ns : List Int), vs = [.ref a] ∧ SqL K H a (ns.map V.int) ∧ ns.length ≤ 63 ∧ ∀ H', Q (.bl true) H'
theorem relL_ints {K : PySem.W.Frag} {H : Hp} {ι : Ix} : ∀ ns : List Int, RelL K H ι (ns.map D.int) (ns.map V.int)
  | [] => by simp [RelL]
  | n :: ns => by
    simp only [List.map_cons, RelL]
    exact ⟨_, _, rfl, by simp [Rel], relL_ints ns⟩
theorem sp_law {K : PySem.W.Frag} {fn : Fn} (h : ∀ ns : List Int, ns.length ≤ 63 → ∃ g', fn [.lst (ns.map .int)] [] = some (.bl true, g')) (vs : List V) (H : Hp) (Q : VK) (E : XK) (q : spLaw K vs H Q E) : spD K 1 fn vs H Q E := by
  obtain ⟨a, ns, rfl, hS, hl, hq⟩ := q
  obtain ⟨g', hg⟩ := h ns hl
  refine ⟨rfl, ⟨[], []⟩, [], [.lst (ns.map .int)], .bl true, g', ⟨List.nodup_nil, rfl, (fun b hb => by cases hb), (fun i xs z => by simp at z)⟩, ?_, hg, fun H' ι' v e G r => ?_⟩
  · simp only [RelL]
    refine ⟨_, _, rfl, ?_, rfl⟩
    simp only [Rel]
    refine ⟨a, _, rfl, ?_, relL_ints ns⟩
    rcases hS with hS | hS
    · exact .inl ⟨hS, by simp, by simp⟩
    · exact .inr hS
  · simp only [Rel] at r
    rw [r]
    exact hq H'
theorem us_1 {fd : FuncData} {p : List Str} (h : ∀ x0, bindArgs fd { pos := [x0] } = pure (p.zip [x0])) : ∀ us : List Value, us.length = 1 → bindArgs fd { pos := us } = pure (p.zip us)
  | [x0], _ => h x0
theorem us_2 {fd : FuncData} {p : List Str} (h : ∀ x0 x1, bindArgs fd { pos := [x0, x1] } = pure (p.zip [x0, x1])) : ∀ us : List Value, us.length = 2 → bindArgs fd { pos := us } = pure (p.zip us)
  | [x0, x1], _ => h x0 x1
theorem us_3 {fd : FuncData} {p : List Str} (h : ∀ x0 x1 x2, bindArgs fd { pos := [x0, x1, x2] } = pure (p.zip [x0, x1, x2])) : ∀ us : List Value, us.length = 3 → bindArgs fd { pos := us } = pure (p.zip us)
  | [x0, x1, x2], _ => h x0 x1 x2
theorem us_4 {fd : FuncData} {p : List Str} (h : ∀ x0 x1 x2 x3, bindArgs fd { pos := [x0, x1, x2, x3] } = pure (p.zip [x0, x1, x2, x3])) : ∀ us : List Value, us.length = 4 → bindArgs fd { pos := us } = pure (p.zip us)
  | [x0, x1, x2, x3], _ => h x0 x1 x2 x3
set_option maxHeartbeats 0 in
theorem all_mk {l : PySem.W.OpenLaw} {w : World} {K : PySem.W.Frag} {h : Heap} {mg : Str → Option Value} {fa : Addr} (X : K.In h) (G : h.Ns mainGlobals mg) (hfa : mg "law" = some (.ref fa))
    {od1 an1 sl1 oc1 kV1 dc1 pm1 cd1 ct1 f1}
    {od2 an2 sl2 oc2 kV2 dc2 pm2 cd2 ct2 f2}
    {od3 an3 sl3 oc3 kV3 dc3 pm3 cd3 ct3 f3}
    {od4 an4 sl4 oc4 kV4 dc4 pm4 cd4 ct4 f4}
    {od5 an5 sl5 oc5 kV5 dc5 pm5 cd5 ct5 f5}
    {od8 an8 sl8 oc8 kV8 dc8 pm8 cd8 ct8 f8}
    {od9 an9 sl9 oc9 kV9 dc9 pm9 cd9 ct9 f9}
    {od10 an10 sl10 oc10 kV10 dc10 pm10 cd10 ct10 f10}
    {od15 an15 sl15 oc15 kV15 dc15 pm15 cd15 ct15 f15}
    {od16 an16 sl16 oc16 kV16 dc16 pm16 cd16 ct16 f16}
    {od18 an18 sl18 oc18 kV18 dc18 pm18 cd18 ct18 f18}
    {od19 an19 sl19 oc19 kV19 dc19 pm19 cd19 ct19 f19}
    {od20 an20 sl20 oc20 kV20 dc20 pm20 cd20 ct20 f20}
    {od27 an27 sl27 oc27 kV27 dc27 pm27 cd27 ct27 f27}
    {od28 an28 sl28 oc28 kV28 dc28 pm28 cd28 ct28 f28}
    {od29 an29 sl29 oc29 kV29 dc29 pm29 cd29 ct29 f29}
    {od30 an30 sl30 oc30 kV30 dc30 pm30 cd30 ct30 f30}
    {od31 an31 sl31 oc31 kV31 dc31 pm31 cd31 ct31 f31}
    {od32 an32 sl32 oc32 kV32 dc32 pm32 cd32 ct32 f32}
    {od34 an34 sl34 oc34 kV34 dc34 pm34 cd34 ct34 f34}
    {od35 an35 sl35 oc35 kV35 dc35 pm35 cd35 ct35 f35}
    {od36 an36 sl36 oc36 kV36 dc36 pm36 cd36 ct36 f36}
    {od37 an37 sl37 oc37 kV37 dc37 pm37 cd37 ct37 f37}
    {od38 an38 sl38 oc38 kV38 dc38 pm38 cd38 ct38 f38}
    {od39 an39 sl39 oc39 kV39 dc39 pm39 cd39 ct39 f39}
    {od40 an40 sl40 oc40 kV40 dc40 pm40 cd40 ct40 f40}
    {od41 an41 sl41 oc41 kV41 dc41 pm41 cd41 ct41 f41}
    {od42 an42 sl42 oc42 kV42 dc42 pm42 cd42 ct42 f42}
    {od43 an43 sl43 oc43 kV43 dc43 pm43 cd43 ct43 f43}
    {od44 an44 sl44 oc44 kV44 dc44 pm44 cd44 ct44 f44}
    {od45 an45 sl45 oc45 kV45 dc45 pm45 cd45 ct45 f45}
    {od46 an46 sl46 oc46 kV46 dc46 pm46 cd46 ct46 f46}
    {t_MOST_DEEDS : _}
    {t_MOST_DEEP : _}
    {t_MOST_ITEMS : _}
    {t_MOST_PARTS : _}
    {t_MOST_ROUNDS : _}
    {t_NINE_FIGURES : _}
    {t_TWELVE_FIGURES : _}
    {da_LENGTHS : Addr} {dep_LENGTHS : _}
    {dt_LENGTHS_0 : _}
    {du_LENGTHS_0 : _}
    {dt_LENGTHS_1 : _}
    {du_LENGTHS_1 : _}
    {dt_LENGTHS_2 : _}
    {du_LENGTHS_2 : _}
    {dt_LENGTHS_3 : _}
    {du_LENGTHS_3 : _}
    {dt_LENGTHS_4 : _}
    {du_LENGTHS_4 : _}
    {da_NUMBERS : Addr} {dep_NUMBERS : _}
    {dt_NUMBERS_0 : _}
    {db_NUMBERS_0 : Addr} {dn_NUMBERS_0 : _} {dsl_NUMBERS_0 : Array (Option Value)}
    {du_NUMBERS_0_0 : _}
    {dt_NUMBERS_1 : _}
    {db_NUMBERS_1 : Addr} {dn_NUMBERS_1 : _} {dsl_NUMBERS_1 : Array (Option Value)}
    {du_NUMBERS_1_0 : _}
    {du_NUMBERS_1_1 : _}
    {dt_NUMBERS_2 : _}
    {db_NUMBERS_2 : Addr} {dn_NUMBERS_2 : _} {dsl_NUMBERS_2 : Array (Option Value)}
    {du_NUMBERS_2_0 : _}
    {du_NUMBERS_2_1 : _}
    {du_NUMBERS_2_2 : _}
    {dt_NUMBERS_3 : _}
    {db_NUMBERS_3 : Addr} {dn_NUMBERS_3 : _} {dsl_NUMBERS_3 : Array (Option Value)}
    {du_NUMBERS_3_0 : _}
    {du_NUMBERS_3_1 : _}
    {du_NUMBERS_3_2 : _}
    {du_NUMBERS_3_3 : _}
    {dt_NUMBERS_4 : _}
    {db_NUMBERS_4 : Addr} {dn_NUMBERS_4 : _} {dsl_NUMBERS_4 : Array (Option Value)}
    {du_NUMBERS_4_0 : _}
    {du_NUMBERS_4_1 : _}
    {du_NUMBERS_4_2 : _}
    {du_NUMBERS_4_3 : _}
    {du_NUMBERS_4_4 : _}
    {dt_NUMBERS_5 : _}
    {db_NUMBERS_5 : Addr} {dn_NUMBERS_5 : _} {dsl_NUMBERS_5 : Array (Option Value)}
    {du_NUMBERS_5_0 : _}
    {du_NUMBERS_5_1 : _}
    (a1 : PySem.W.nsIn K mainGlobals "is_whole" = some (some (.ref f1))) (l1 : K.lookup f1 = some ⟨oc1, od1, .func (PySem.W.fnOf "is_whole" "is_whole" (defArgs (top 1)) (defBody (top 1)) (defScope (top 1)) .none kV1 dc1 pm1 an1 cd1 ct1), sl1⟩) (e1 : PySem.W.codeIn K cd1 "is_whole" = true) (k1 : PySem.W.keepIn K (.ref f1) = true)
    (a2 : PySem.W.nsIn K mainGlobals "is_within" = some (some (.ref f2))) (l2 : K.lookup f2 = some ⟨oc2, od2, .func (PySem.W.fnOf "is_within" "is_within" (defArgs (top 2)) (defBody (top 2)) (defScope (top 2)) .none kV2 dc2 pm2 an2 cd2 ct2), sl2⟩) (e2 : PySem.W.codeIn K cd2 "is_within" = true) (k2 : PySem.W.keepIn K (.ref f2) = true)
    (a3 : PySem.W.nsIn K mainGlobals "is_figured" = some (some (.ref f3))) (l3 : K.lookup f3 = some ⟨oc3, od3, .func (PySem.W.fnOf "is_figured" "is_figured" (defArgs (top 3)) (defBody (top 3)) (defScope (top 3)) .none kV3 dc3 pm3 an3 cd3 ct3), sl3⟩) (e3 : PySem.W.codeIn K cd3 "is_figured" = true) (k3 : PySem.W.keepIn K (.ref f3) = true)
    (a4 : PySem.W.nsIn K mainGlobals "is_tuple_of" = some (some (.ref f4))) (l4 : K.lookup f4 = some ⟨oc4, od4, .func (PySem.W.fnOf "is_tuple_of" "is_tuple_of" (defArgs (top 4)) (defBody (top 4)) (defScope (top 4)) .none kV4 dc4 pm4 an4 cd4 ct4), sl4⟩) (e4 : PySem.W.codeIn K cd4 "is_tuple_of" = true) (k4 : PySem.W.keepIn K (.ref f4) = true)
    (a5 : PySem.W.nsIn K mainGlobals "word_of" = some (some (.ref f5))) (l5 : K.lookup f5 = some ⟨oc5, od5, .func (PySem.W.fnOf "word_of" "word_of" (defArgs (top 5)) (defBody (top 5)) (defScope (top 5)) .none kV5 dc5 pm5 an5 cd5 ct5), sl5⟩) (e5 : PySem.W.codeIn K cd5 "word_of" = true) (k5 : PySem.W.keepIn K (.ref f5) = true)
    (a8 : PySem.W.nsIn K mainGlobals "number_of" = some (some (.ref f8))) (l8 : K.lookup f8 = some ⟨oc8, od8, .func (PySem.W.fnOf "number_of" "number_of" (defArgs (top 8)) (defBody (top 8)) (defScope (top 8)) .none kV8 dc8 pm8 an8 cd8 ct8), sl8⟩) (e8 : PySem.W.codeIn K cd8 "number_of" = true) (k8 : PySem.W.keepIn K (.ref f8) = true)
    (a9 : PySem.W.nsIn K mainGlobals "hands_of" = some (some (.ref f9))) (l9 : K.lookup f9 = some ⟨oc9, od9, .func (PySem.W.fnOf "hands_of" "hands_of" (defArgs (top 9)) (defBody (top 9)) (defScope (top 9)) .none kV9 dc9 pm9 an9 cd9 ct9), sl9⟩) (e9 : PySem.W.codeIn K cd9 "hands_of" = true) (k9 : PySem.W.keepIn K (.ref f9) = true)
    (a10 : PySem.W.nsIn K mainGlobals "places_of" = some (some (.ref f10))) (l10 : K.lookup f10 = some ⟨oc10, od10, .func (PySem.W.fnOf "places_of" "places_of" (defArgs (top 10)) (defBody (top 10)) (defScope (top 10)) .none kV10 dc10 pm10 an10 cd10 ct10), sl10⟩) (e10 : PySem.W.codeIn K cd10 "places_of" = true) (k10 : PySem.W.keepIn K (.ref f10) = true)
    (a15 : PySem.W.nsIn K mainGlobals "is_value" = some (some (.ref f15))) (l15 : K.lookup f15 = some ⟨oc15, od15, .func (PySem.W.fnOf "is_value" "is_value" (defArgs (top 15)) (defBody (top 15)) (defScope (top 15)) .none kV15 dc15 pm15 an15 cd15 ct15), sl15⟩) (e15 : PySem.W.codeIn K cd15 "is_value" = true) (k15 : PySem.W.keepIn K (.ref f15) = true)
    (a16 : PySem.W.nsIn K mainGlobals "is_value_within" = some (some (.ref f16))) (l16 : K.lookup f16 = some ⟨oc16, od16, .func (PySem.W.fnOf "is_value_within" "is_value_within" (defArgs (top 16)) (defBody (top 16)) (defScope (top 16)) .none kV16 dc16 pm16 an16 cd16 ct16), sl16⟩) (e16 : PySem.W.codeIn K cd16 "is_value_within" = true) (k16 : PySem.W.keepIn K (.ref f16) = true)
    (a18 : PySem.W.nsIn K mainGlobals "is_deed" = some (some (.ref f18))) (l18 : K.lookup f18 = some ⟨oc18, od18, .func (PySem.W.fnOf "is_deed" "is_deed" (defArgs (top 18)) (defBody (top 18)) (defScope (top 18)) .none kV18 dc18 pm18 an18 cd18 ct18), sl18⟩) (e18 : PySem.W.codeIn K cd18 "is_deed" = true) (k18 : PySem.W.keepIn K (.ref f18) = true)
    (a19 : PySem.W.nsIn K mainGlobals "may_put_at" = some (some (.ref f19))) (l19 : K.lookup f19 = some ⟨oc19, od19, .func (PySem.W.fnOf "may_put_at" "may_put_at" (defArgs (top 19)) (defBody (top 19)) (defScope (top 19)) .none kV19 dc19 pm19 an19 cd19 ct19), sl19⟩) (e19 : PySem.W.codeIn K cd19 "may_put_at" = true) (k19 : PySem.W.keepIn K (.ref f19) = true)
    (a20 : PySem.W.nsIn K mainGlobals "may_put" = some (some (.ref f20))) (l20 : K.lookup f20 = some ⟨oc20, od20, .func (PySem.W.fnOf "may_put" "may_put" (defArgs (top 20)) (defBody (top 20)) (defScope (top 20)) .none kV20 dc20 pm20 an20 cd20 ct20), sl20⟩) (e20 : PySem.W.codeIn K cd20 "may_put" = true) (k20 : PySem.W.keepIn K (.ref f20) = true)
    (a27 : PySem.W.nsIn K mainGlobals "is_jobs" = some (some (.ref f27))) (l27 : K.lookup f27 = some ⟨oc27, od27, .func (PySem.W.fnOf "is_jobs" "is_jobs" (defArgs (top 27)) (defBody (top 27)) (defScope (top 27)) .none kV27 dc27 pm27 an27 cd27 ct27), sl27⟩) (e27 : PySem.W.codeIn K cd27 "is_jobs" = true) (k27 : PySem.W.keepIn K (.ref f27) = true)
    (a28 : PySem.W.nsIn K mainGlobals "is_job" = some (some (.ref f28))) (l28 : K.lookup f28 = some ⟨oc28, od28, .func (PySem.W.fnOf "is_job" "is_job" (defArgs (top 28)) (defBody (top 28)) (defScope (top 28)) .none kV28 dc28 pm28 an28 cd28 ct28), sl28⟩) (e28 : PySem.W.codeIn K cd28 "is_job" = true) (k28 : PySem.W.keepIn K (.ref f28) = true)
    (a29 : PySem.W.nsIn K mainGlobals "is_row_of_deeds" = some (some (.ref f29))) (l29 : K.lookup f29 = some ⟨oc29, od29, .func (PySem.W.fnOf "is_row_of_deeds" "is_row_of_deeds" (defArgs (top 29)) (defBody (top 29)) (defScope (top 29)) .none kV29 dc29 pm29 an29 cd29 ct29), sl29⟩) (e29 : PySem.W.codeIn K cd29 "is_row_of_deeds" = true) (k29 : PySem.W.keepIn K (.ref f29) = true)
    (a30 : PySem.W.nsIn K mainGlobals "are_items" = some (some (.ref f30))) (l30 : K.lookup f30 = some ⟨oc30, od30, .func (PySem.W.fnOf "are_items" "are_items" (defArgs (top 30)) (defBody (top 30)) (defScope (top 30)) .none kV30 dc30 pm30 an30 cd30 ct30), sl30⟩) (e30 : PySem.W.codeIn K cd30 "are_items" = true) (k30 : PySem.W.keepIn K (.ref f30) = true)
    (a31 : PySem.W.nsIn K mainGlobals "go_together" = some (some (.ref f31))) (l31 : K.lookup f31 = some ⟨oc31, od31, .func (PySem.W.fnOf "go_together" "go_together" (defArgs (top 31)) (defBody (top 31)) (defScope (top 31)) .none kV31 dc31 pm31 an31 cd31 ct31), sl31⟩) (e31 : PySem.W.codeIn K cd31 "go_together" = true) (k31 : PySem.W.keepIn K (.ref f31) = true)
    (a32 : PySem.W.nsIn K mainGlobals "are_fellows" = some (some (.ref f32))) (l32 : K.lookup f32 = some ⟨oc32, od32, .func (PySem.W.fnOf "are_fellows" "are_fellows" (defArgs (top 32)) (defBody (top 32)) (defScope (top 32)) .none kV32 dc32 pm32 an32 cd32 ct32), sl32⟩) (e32 : PySem.W.codeIn K cd32 "are_fellows" = true) (k32 : PySem.W.keepIn K (.ref f32) = true)
    (a34 : PySem.W.nsIn K mainGlobals "_law_hand" = some (some (.ref f34))) (l34 : K.lookup f34 = some ⟨oc34, od34, .func (PySem.W.fnOf "_law_hand" "_law_hand" (defArgs (top 34)) (defBody (top 34)) (defScope (top 34)) .none kV34 dc34 pm34 an34 cd34 ct34), sl34⟩) (e34 : PySem.W.codeIn K cd34 "_law_hand" = true) (k34 : PySem.W.keepIn K (.ref f34) = true)
    (a35 : PySem.W.nsIn K mainGlobals "_law_take" = some (some (.ref f35))) (l35 : K.lookup f35 = some ⟨oc35, od35, .func (PySem.W.fnOf "_law_take" "_law_take" (defArgs (top 35)) (defBody (top 35)) (defScope (top 35)) .none kV35 dc35 pm35 an35 cd35 ct35), sl35⟩) (e35 : PySem.W.codeIn K cd35 "_law_take" = true) (k35 : PySem.W.keepIn K (.ref f35) = true)
    (a36 : PySem.W.nsIn K mainGlobals "_law_pick" = some (some (.ref f36))) (l36 : K.lookup f36 = some ⟨oc36, od36, .func (PySem.W.fnOf "_law_pick" "_law_pick" (defArgs (top 36)) (defBody (top 36)) (defScope (top 36)) .none kV36 dc36 pm36 an36 cd36 ct36), sl36⟩) (e36 : PySem.W.codeIn K cd36 "_law_pick" = true) (k36 : PySem.W.keepIn K (.ref f36) = true)
    (a37 : PySem.W.nsIn K mainGlobals "_law_manner" = some (some (.ref f37))) (l37 : K.lookup f37 = some ⟨oc37, od37, .func (PySem.W.fnOf "_law_manner" "_law_manner" (defArgs (top 37)) (defBody (top 37)) (defScope (top 37)) .none kV37 dc37 pm37 an37 cd37 ct37), sl37⟩) (e37 : PySem.W.codeIn K cd37 "_law_manner" = true) (k37 : PySem.W.keepIn K (.ref f37) = true)
    (a38 : PySem.W.nsIn K mainGlobals "_law_table" = some (some (.ref f38))) (l38 : K.lookup f38 = some ⟨oc38, od38, .func (PySem.W.fnOf "_law_table" "_law_table" (defArgs (top 38)) (defBody (top 38)) (defScope (top 38)) .none kV38 dc38 pm38 an38 cd38 ct38), sl38⟩) (e38 : PySem.W.codeIn K cd38 "_law_table" = true) (k38 : PySem.W.keepIn K (.ref f38) = true)
    (a39 : PySem.W.nsIn K mainGlobals "_law_tables" = some (some (.ref f39))) (l39 : K.lookup f39 = some ⟨oc39, od39, .func (PySem.W.fnOf "_law_tables" "_law_tables" (defArgs (top 39)) (defBody (top 39)) (defScope (top 39)) .none kV39 dc39 pm39 an39 cd39 ct39), sl39⟩) (e39 : PySem.W.codeIn K cd39 "_law_tables" = true) (k39 : PySem.W.keepIn K (.ref f39) = true)
    (a40 : PySem.W.nsIn K mainGlobals "_law_plain_value" = some (some (.ref f40))) (l40 : K.lookup f40 = some ⟨oc40, od40, .func (PySem.W.fnOf "_law_plain_value" "_law_plain_value" (defArgs (top 40)) (defBody (top 40)) (defScope (top 40)) .none kV40 dc40 pm40 an40 cd40 ct40), sl40⟩) (e40 : PySem.W.codeIn K cd40 "_law_plain_value" = true) (k40 : PySem.W.keepIn K (.ref f40) = true)
    (a41 : PySem.W.nsIn K mainGlobals "_law_deeds" = some (some (.ref f41))) (l41 : K.lookup f41 = some ⟨oc41, od41, .func (PySem.W.fnOf "_law_deeds" "_law_deeds" (defArgs (top 41)) (defBody (top 41)) (defScope (top 41)) .none kV41 dc41 pm41 an41 cd41 ct41), sl41⟩) (e41 : PySem.W.codeIn K cd41 "_law_deeds" = true) (k41 : PySem.W.keepIn K (.ref f41) = true)
    (a42 : PySem.W.nsIn K mainGlobals "_law_built" = some (some (.ref f42))) (l42 : K.lookup f42 = some ⟨oc42, od42, .func (PySem.W.fnOf "_law_built" "_law_built" (defArgs (top 42)) (defBody (top 42)) (defScope (top 42)) .none kV42 dc42 pm42 an42 cd42 ct42), sl42⟩) (e42 : PySem.W.codeIn K cd42 "_law_built" = true) (k42 : PySem.W.keepIn K (.ref f42) = true)
    (a43 : PySem.W.nsIn K mainGlobals "_law_odd_jobs" = some (some (.ref f43))) (l43 : K.lookup f43 = some ⟨oc43, od43, .func (PySem.W.fnOf "_law_odd_jobs" "_law_odd_jobs" (defArgs (top 43)) (defBody (top 43)) (defScope (top 43)) .none kV43 dc43 pm43 an43 cd43 ct43), sl43⟩) (e43 : PySem.W.codeIn K cd43 "_law_odd_jobs" = true) (k43 : PySem.W.keepIn K (.ref f43) = true)
    (a44 : PySem.W.nsIn K mainGlobals "_law_spoilt" = some (some (.ref f44))) (l44 : K.lookup f44 = some ⟨oc44, od44, .func (PySem.W.fnOf "_law_spoilt" "_law_spoilt" (defArgs (top 44)) (defBody (top 44)) (defScope (top 44)) .none kV44 dc44 pm44 an44 cd44 ct44), sl44⟩) (e44 : PySem.W.codeIn K cd44 "_law_spoilt" = true) (k44 : PySem.W.keepIn K (.ref f44) = true)
    (a45 : PySem.W.nsIn K mainGlobals "_law_others" = some (some (.ref f45))) (l45 : K.lookup f45 = some ⟨oc45, od45, .func (PySem.W.fnOf "_law_others" "_law_others" (defArgs (top 45)) (defBody (top 45)) (defScope (top 45)) .none kV45 dc45 pm45 an45 cd45 ct45), sl45⟩) (e45 : PySem.W.codeIn K cd45 "_law_others" = true) (k45 : PySem.W.keepIn K (.ref f45) = true)
    (a46 : PySem.W.nsIn K mainGlobals "law" = some (some (.ref f46))) (l46 : K.lookup f46 = some ⟨oc46, od46, .func (PySem.W.fnOf "law" "law" (defArgs (top 46)) (defBody (top 46)) (defScope (top 46)) .none kV46 dc46 pm46 an46 cd46 ct46), sl46⟩) (e46 : PySem.W.codeIn K cd46 "law" = true) (k46 : PySem.W.keepIn K (.ref f46) = true)
    (z_all : PySem.W.nsIn K mainGlobals "all" = some none)
    (z_bool : PySem.W.nsIn K mainGlobals "bool" = some none)
    (z_enumerate : PySem.W.nsIn K mainGlobals "enumerate" = some none)
    (z_int : PySem.W.nsIn K mainGlobals "int" = some none)
    (z_isinstance : PySem.W.nsIn K mainGlobals "isinstance" = some none)
    (z_len : PySem.W.nsIn K mainGlobals "len" = some none)
    (z_list : PySem.W.nsIn K mainGlobals "list" = some none)
    (z_max : PySem.W.nsIn K mainGlobals "max" = some none)
    (z_min : PySem.W.nsIn K mainGlobals "min" = some none)
    (z_range : PySem.W.nsIn K mainGlobals "range" = some none)
    (z_set : PySem.W.nsIn K mainGlobals "set" = some none)
    (z_sorted : PySem.W.nsIn K mainGlobals "sorted" = some none)
    (z_str : PySem.W.nsIn K mainGlobals "str" = some none)
    (z_tuple : PySem.W.nsIn K mainGlobals "tuple" = some none)
    (q_MOST_DEEDS : PySem.W.nsIn K mainGlobals "MOST_DEEDS" = some (some (.int 12 t_MOST_DEEDS)))
    (q_MOST_DEEP : PySem.W.nsIn K mainGlobals "MOST_DEEP" = some (some (.int 3 t_MOST_DEEP)))
    (q_MOST_ITEMS : PySem.W.nsIn K mainGlobals "MOST_ITEMS" = some (some (.int 8 t_MOST_ITEMS)))
    (q_MOST_PARTS : PySem.W.nsIn K mainGlobals "MOST_PARTS" = some (some (.int 8 t_MOST_PARTS)))
    (q_MOST_ROUNDS : PySem.W.nsIn K mainGlobals "MOST_ROUNDS" = some (some (.int 6 t_MOST_ROUNDS)))
    (q_NINE_FIGURES : PySem.W.nsIn K mainGlobals "NINE_FIGURES" = some (some (.int 999999999 t_NINE_FIGURES)))
    (q_TWELVE_FIGURES : PySem.W.nsIn K mainGlobals "TWELVE_FIGURES" = some (some (.int 999999999999 t_TWELVE_FIGURES)))
    (qn_LENGTHS : PySem.W.nsIn K mainGlobals "LENGTHS" = some (some (.ref da_LENGTHS)))
    (ql_LENGTHS : K.lookup da_LENGTHS = some ⟨.type "dict", none, .dict #[⟨PyData.keyHash w.params "deeds", .str "deeds" dt_LENGTHS_0, .int 2 du_LENGTHS_0⟩, ⟨PyData.keyHash w.params "sums", .str "sums" dt_LENGTHS_1, .int 2 du_LENGTHS_1⟩, ⟨PyData.keyHash w.params "name", .str "name" dt_LENGTHS_2, .int 2 du_LENGTHS_2⟩, ⟨PyData.keyHash w.params "least", .str "least" dt_LENGTHS_3, .int 3 du_LENGTHS_3⟩, ⟨PyData.keyHash w.params "closer", .str "closer" dt_LENGTHS_4, .int 3 du_LENGTHS_4⟩] dep_LENGTHS, #[]⟩)
    (qs_LENGTHS : (da_LENGTHS == sysModules) = false)
    (qn_NUMBERS : PySem.W.nsIn K mainGlobals "NUMBERS" = some (some (.ref da_NUMBERS)))
    (ql_NUMBERS : K.lookup da_NUMBERS = some ⟨.type "dict", none, .dict #[⟨PyData.keyHash w.params "once", .str "once" dt_NUMBERS_0, .ref db_NUMBERS_0⟩, ⟨PyData.keyHash w.params "twice", .str "twice" dt_NUMBERS_1, .ref db_NUMBERS_1⟩, ⟨PyData.keyHash w.params "handed", .str "handed" dt_NUMBERS_2, .ref db_NUMBERS_2⟩, ⟨PyData.keyHash w.params "signs", .str "signs" dt_NUMBERS_3, .ref db_NUMBERS_3⟩, ⟨PyData.keyHash w.params "shared", .str "shared" dt_NUMBERS_4, .ref db_NUMBERS_4⟩, ⟨PyData.keyHash w.params "tables", .str "tables" dt_NUMBERS_5, .ref db_NUMBERS_5⟩] dep_NUMBERS, #[]⟩)
    (qv_NUMBERS_0 : K.lookup db_NUMBERS_0 = some ⟨.type "tuple", none, .seq #[(.str "hands" du_NUMBERS_0_0)] dn_NUMBERS_0, dsl_NUMBERS_0⟩)
    (qv_NUMBERS_1 : K.lookup db_NUMBERS_1 = some ⟨.type "tuple", none, .seq #[(.str "hands" du_NUMBERS_1_0), (.str "turn" du_NUMBERS_1_1)] dn_NUMBERS_1, dsl_NUMBERS_1⟩)
    (qv_NUMBERS_2 : K.lookup db_NUMBERS_2 = some ⟨.type "tuple", none, .seq #[(.str "hands" du_NUMBERS_2_0), (.str "turn" du_NUMBERS_2_1), (.str "moves" du_NUMBERS_2_2)] dn_NUMBERS_2, dsl_NUMBERS_2⟩)
    (qv_NUMBERS_3 : K.lookup db_NUMBERS_3 = some ⟨.type "tuple", none, .seq #[(.str "hands" du_NUMBERS_3_0), (.str "toggles" du_NUMBERS_3_1), (.str "shakes" du_NUMBERS_3_2), (.str "moves" du_NUMBERS_3_3)] dn_NUMBERS_3, dsl_NUMBERS_3⟩)
    (qv_NUMBERS_4 : K.lookup db_NUMBERS_4 = some ⟨.type "tuple", none, .seq #[(.str "hands" du_NUMBERS_4_0), (.str "places" du_NUMBERS_4_1), (.str "toggles" du_NUMBERS_4_2), (.str "shakes" du_NUMBERS_4_3), (.str "moves" du_NUMBERS_4_4)] dn_NUMBERS_4, dsl_NUMBERS_4⟩)
    (qv_NUMBERS_5 : K.lookup db_NUMBERS_5 = some ⟨.type "tuple", none, .seq #[(.str "hands" du_NUMBERS_5_0), (.str "boxes" du_NUMBERS_5_1)] dn_NUMBERS_5, dsl_NUMBERS_5⟩)
    (qs_NUMBERS : (da_NUMBERS == sysModules) = false) :
    ∃ fd : FuncData, (∀ (s : Shared) (v : Value), BindsTo s fd ⟨[v], []⟩ [("_law_script", v)]) ∧ ∀ base : Heap, K.In base → base.Ns mainGlobals mg → FnOk l.prog w K mg base CX0 60 fa fd ["_law_script"] (spLaw K) := by
  have e := hfa.symm.trans (PySem.W.mg_of X G a46)
  cases e
  have F1 := fun_mk (st := top 1) l1 e1 k1
  have F2 := fun_mk (st := top 2) l2 e2 k2
  have F3 := fun_mk (st := top 3) l3 e3 k3
  have F4 := fun_mk (st := top 4) l4 e4 k4
  have F5 := fun_mk (st := top 5) l5 e5 k5
  have F8 := fun_mk (st := top 8) l8 e8 k8
  have F9 := fun_mk (st := top 9) l9 e9 k9
  have F10 := fun_mk (st := top 10) l10 e10 k10
  have F15 := fun_mk (st := top 15) l15 e15 k15
  have F16 := fun_mk (st := top 16) l16 e16 k16
  have F18 := fun_mk (st := top 18) l18 e18 k18
  have F19 := fun_mk (st := top 19) l19 e19 k19
  have F20 := fun_mk (st := top 20) l20 e20 k20
  have F27 := fun_mk (st := top 27) l27 e27 k27
  have F28 := fun_mk (st := top 28) l28 e28 k28
  have F29 := fun_mk (st := top 29) l29 e29 k29
  have F30 := fun_mk (st := top 30) l30 e30 k30
  have F31 := fun_mk (st := top 31) l31 e31 k31
  have F32 := fun_mk (st := top 32) l32 e32 k32
  have F34 := fun_mk (st := top 34) l34 e34 k34
  have F35 := fun_mk (st := top 35) l35 e35 k35
  have F36 := fun_mk (st := top 36) l36 e36 k36
  have F37 := fun_mk (st := top 37) l37 e37 k37
  have F38 := fun_mk (st := top 38) l38 e38 k38
  have F39 := fun_mk (st := top 39) l39 e39 k39
  have F40 := fun_mk (st := top 40) l40 e40 k40
  have F41 := fun_mk (st := top 41) l41 e41 k41
  have F42 := fun_mk (st := top 42) l42 e42 k42
  have F43 := fun_mk (st := top 43) l43 e43 k43
  have F44 := fun_mk (st := top 44) l44 e44 k44
  have F45 := fun_mk (st := top 45) l45 e45 k45
  have F46 := fun_mk (st := top 46) l46 e46 k46
  have A : An w K mg (fun i => ([fa, f1, f2, f3, f4, f5, fa, fa, f8, f9, f10, fa, fa, fa, fa, f15, f16, fa, f18, f19, f20, fa, fa, fa, fa, fa, fa, f27, f28, f29, f30, f31, f32, fa, f34, f35, f36, f37, f38, f39, f40, f41, f42, f43, f44, f45, fa] : List Addr).getD i fa) (fun i => ([PySem.W.fnOf "law" "law" (defArgs (top 46)) (defBody (top 46)) (defScope (top 46)) .none kV46 dc46 pm46 an46 cd46 ct46, PySem.W.fnOf "is_whole" "is_whole" (defArgs (top 1)) (defBody (top 1)) (defScope (top 1)) .none kV1 dc1 pm1 an1 cd1 ct1, PySem.W.fnOf "is_within" "is_within" (defArgs (top 2)) (defBody (top 2)) (defScope (top 2)) .none kV2 dc2 pm2 an2 cd2 ct2, PySem.W.fnOf "is_figured" "is_figured" (defArgs (top 3)) (defBody (top 3)) (defScope (top 3)) .none kV3 dc3 pm3 an3 cd3 ct3, PySem.W.fnOf "is_tuple_of" "is_tuple_of" (defArgs (top 4)) (defBody (top 4)) (defScope (top 4)) .none kV4 dc4 pm4 an4 cd4 ct4, PySem.W.fnOf "word_of" "word_of" (defArgs (top 5)) (defBody (top 5)) (defScope (top 5)) .none kV5 dc5 pm5 an5 cd5 ct5, PySem.W.fnOf "law" "law" (defArgs (top 46)) (defBody (top 46)) (defScope (top 46)) .none kV46 dc46 pm46 an46 cd46 ct46, PySem.W.fnOf "law" "law" (defArgs (top 46)) (defBody (top 46)) (defScope (top 46)) .none kV46 dc46 pm46 an46 cd46 ct46, PySem.W.fnOf "number_of" "number_of" (defArgs (top 8)) (defBody (top 8)) (defScope (top 8)) .none kV8 dc8 pm8 an8 cd8 ct8, PySem.W.fnOf "hands_of" "hands_of" (defArgs (top 9)) (defBody (top 9)) (defScope (top 9)) .none kV9 dc9 pm9 an9 cd9 ct9, PySem.W.fnOf "places_of" "places_of" (defArgs (top 10)) (defBody (top 10)) (defScope (top 10)) .none kV10 dc10 pm10 an10 cd10 ct10, PySem.W.fnOf "law" "law" (defArgs (top 46)) (defBody (top 46)) (defScope (top 46)) .none kV46 dc46 pm46 an46 cd46 ct46, PySem.W.fnOf "law" "law" (defArgs (top 46)) (defBody (top 46)) (defScope (top 46)) .none kV46 dc46 pm46 an46 cd46 ct46, PySem.W.fnOf "law" "law" (defArgs (top 46)) (defBody (top 46)) (defScope (top 46)) .none kV46 dc46 pm46 an46 cd46 ct46, PySem.W.fnOf "law" "law" (defArgs (top 46)) (defBody (top 46)) (defScope (top 46)) .none kV46 dc46 pm46 an46 cd46 ct46, PySem.W.fnOf "is_value" "is_value" (defArgs (top 15)) (defBody (top 15)) (defScope (top 15)) .none kV15 dc15 pm15 an15 cd15 ct15, PySem.W.fnOf "is_value_within" "is_value_within" (defArgs (top 16)) (defBody (top 16)) (defScope (top 16)) .none kV16 dc16 pm16 an16 cd16 ct16, PySem.W.fnOf "law" "law" (defArgs (top 46)) (defBody (top 46)) (defScope (top 46)) .none kV46 dc46 pm46 an46 cd46 ct46, PySem.W.fnOf "is_deed" "is_deed" (defArgs (top 18)) (defBody (top 18)) (defScope (top 18)) .none kV18 dc18 pm18 an18 cd18 ct18, PySem.W.fnOf "may_put_at" "may_put_at" (defArgs (top 19)) (defBody (top 19)) (defScope (top 19)) .none kV19 dc19 pm19 an19 cd19 ct19, PySem.W.fnOf "may_put" "may_put" (defArgs (top 20)) (defBody (top 20)) (defScope (top 20)) .none kV20 dc20 pm20 an20 cd20 ct20, PySem.W.fnOf "law" "law" (defArgs (top 46)) (defBody (top 46)) (defScope (top 46)) .none kV46 dc46 pm46 an46 cd46 ct46, PySem.W.fnOf "law" "law" (defArgs (top 46)) (defBody (top 46)) (defScope (top 46)) .none kV46 dc46 pm46 an46 cd46 ct46, PySem.W.fnOf "law" "law" (defArgs (top 46)) (defBody (top 46)) (defScope (top 46)) .none kV46 dc46 pm46 an46 cd46 ct46, PySem.W.fnOf "law" "law" (defArgs (top 46)) (defBody (top 46)) (defScope (top 46)) .none kV46 dc46 pm46 an46 cd46 ct46, PySem.W.fnOf "law" "law" (defArgs (top 46)) (defBody (top 46)) (defScope (top 46)) .none kV46 dc46 pm46 an46 cd46 ct46, PySem.W.fnOf "law" "law" (defArgs (top 46)) (defBody (top 46)) (defScope (top 46)) .none kV46 dc46 pm46 an46 cd46 ct46, PySem.W.fnOf "is_jobs" "is_jobs" (defArgs (top 27)) (defBody (top 27)) (defScope (top 27)) .none kV27 dc27 pm27 an27 cd27 ct27, PySem.W.fnOf "is_job" "is_job" (defArgs (top 28)) (defBody (top 28)) (defScope (top 28)) .none kV28 dc28 pm28 an28 cd28 ct28, PySem.W.fnOf "is_row_of_deeds" "is_row_of_deeds" (defArgs (top 29)) (defBody (top 29)) (defScope (top 29)) .none kV29 dc29 pm29 an29 cd29 ct29, PySem.W.fnOf "are_items" "are_items" (defArgs (top 30)) (defBody (top 30)) (defScope (top 30)) .none kV30 dc30 pm30 an30 cd30 ct30, PySem.W.fnOf "go_together" "go_together" (defArgs (top 31)) (defBody (top 31)) (defScope (top 31)) .none kV31 dc31 pm31 an31 cd31 ct31, PySem.W.fnOf "are_fellows" "are_fellows" (defArgs (top 32)) (defBody (top 32)) (defScope (top 32)) .none kV32 dc32 pm32 an32 cd32 ct32, PySem.W.fnOf "law" "law" (defArgs (top 46)) (defBody (top 46)) (defScope (top 46)) .none kV46 dc46 pm46 an46 cd46 ct46, PySem.W.fnOf "_law_hand" "_law_hand" (defArgs (top 34)) (defBody (top 34)) (defScope (top 34)) .none kV34 dc34 pm34 an34 cd34 ct34, PySem.W.fnOf "_law_take" "_law_take" (defArgs (top 35)) (defBody (top 35)) (defScope (top 35)) .none kV35 dc35 pm35 an35 cd35 ct35, PySem.W.fnOf "_law_pick" "_law_pick" (defArgs (top 36)) (defBody (top 36)) (defScope (top 36)) .none kV36 dc36 pm36 an36 cd36 ct36, PySem.W.fnOf "_law_manner" "_law_manner" (defArgs (top 37)) (defBody (top 37)) (defScope (top 37)) .none kV37 dc37 pm37 an37 cd37 ct37, PySem.W.fnOf "_law_table" "_law_table" (defArgs (top 38)) (defBody (top 38)) (defScope (top 38)) .none kV38 dc38 pm38 an38 cd38 ct38, PySem.W.fnOf "_law_tables" "_law_tables" (defArgs (top 39)) (defBody (top 39)) (defScope (top 39)) .none kV39 dc39 pm39 an39 cd39 ct39, PySem.W.fnOf "_law_plain_value" "_law_plain_value" (defArgs (top 40)) (defBody (top 40)) (defScope (top 40)) .none kV40 dc40 pm40 an40 cd40 ct40, PySem.W.fnOf "_law_deeds" "_law_deeds" (defArgs (top 41)) (defBody (top 41)) (defScope (top 41)) .none kV41 dc41 pm41 an41 cd41 ct41, PySem.W.fnOf "_law_built" "_law_built" (defArgs (top 42)) (defBody (top 42)) (defScope (top 42)) .none kV42 dc42 pm42 an42 cd42 ct42, PySem.W.fnOf "_law_odd_jobs" "_law_odd_jobs" (defArgs (top 43)) (defBody (top 43)) (defScope (top 43)) .none kV43 dc43 pm43 an43 cd43 ct43, PySem.W.fnOf "_law_spoilt" "_law_spoilt" (defArgs (top 44)) (defBody (top 44)) (defScope (top 44)) .none kV44 dc44 pm44 an44 cd44 ct44, PySem.W.fnOf "_law_others" "_law_others" (defArgs (top 45)) (defBody (top 45)) (defScope (top 45)) .none kV45 dc45 pm45 an45 cd45 ct45, PySem.W.fnOf "law" "law" (defArgs (top 46)) (defBody (top 46)) (defScope (top 46)) .none kV46 dc46 pm46 an46 cd46 ct46] : List FuncData).getD i (PySem.W.fnOf "law" "law" (defArgs (top 46)) (defBody (top 46)) (defScope (top 46)) .none kV46 dc46 pm46 an46 cd46 ct46)) :=
    {
      f_1 := F1,
      q_1 := ⟨PySem.W.mg_of X G a1, F1.kp, F1.binds (ps := P_1) fun _ _ _ _ _ _ us hl => us_1 (fun _ => rfl) us hl⟩,
      f_2 := F2,
      q_2 := ⟨PySem.W.mg_of X G a2, F2.kp, F2.binds (ps := P_2) fun _ _ _ _ _ _ us hl => us_3 (fun _ _ _ => rfl) us hl⟩,
      f_3 := F3,
      q_3 := ⟨PySem.W.mg_of X G a3, F3.kp, F3.binds (ps := P_3) fun _ _ _ _ _ _ us hl => us_2 (fun _ _ => rfl) us hl⟩,
      f_4 := F4,
      q_4 := ⟨PySem.W.mg_of X G a4, F4.kp, F4.binds (ps := P_4) fun _ _ _ _ _ _ us hl => us_3 (fun _ _ _ => rfl) us hl⟩,
      f_5 := F5,
      q_5 := ⟨PySem.W.mg_of X G a5, F5.kp, F5.binds (ps := P_5) fun _ _ _ _ _ _ us hl => us_1 (fun _ => rfl) us hl⟩,
      f_8 := F8,
      q_8 := ⟨PySem.W.mg_of X G a8, F8.kp, F8.binds (ps := P_8) fun _ _ _ _ _ _ us hl => us_2 (fun _ _ => rfl) us hl⟩,
      f_9 := F9,
      q_9 := ⟨PySem.W.mg_of X G a9, F9.kp, F9.binds (ps := P_9) fun _ _ _ _ _ _ us hl => us_1 (fun _ => rfl) us hl⟩,
      f_10 := F10,
      q_10 := ⟨PySem.W.mg_of X G a10, F10.kp, F10.binds (ps := P_10) fun _ _ _ _ _ _ us hl => us_1 (fun _ => rfl) us hl⟩,
      f_15 := F15,
      q_15 := ⟨PySem.W.mg_of X G a15, F15.kp, F15.binds (ps := P_15) fun _ _ _ _ _ _ us hl => us_1 (fun _ => rfl) us hl⟩,
      f_16 := F16,
      q_16 := ⟨PySem.W.mg_of X G a16, F16.kp, F16.binds (ps := P_16) fun _ _ _ _ _ _ us hl => us_2 (fun _ _ => rfl) us hl⟩,
      f_18 := F18,
      q_18 := ⟨PySem.W.mg_of X G a18, F18.kp, F18.binds (ps := P_18) fun _ _ _ _ _ _ us hl => us_3 (fun _ _ _ => rfl) us hl⟩,
      f_19 := F19,
      q_19 := ⟨PySem.W.mg_of X G a19, F19.kp, F19.binds (ps := P_19) fun _ _ _ _ _ _ us hl => us_3 (fun _ _ _ => rfl) us hl⟩,
      f_20 := F20,
      q_20 := ⟨PySem.W.mg_of X G a20, F20.kp, F20.binds (ps := P_20) fun _ _ _ _ _ _ us hl => us_2 (fun _ _ => rfl) us hl⟩,
      f_27 := F27,
      q_27 := ⟨PySem.W.mg_of X G a27, F27.kp, F27.binds (ps := P_27) fun _ _ _ _ _ _ us hl => us_2 (fun _ _ => rfl) us hl⟩,
      f_28 := F28,
      q_28 := ⟨PySem.W.mg_of X G a28, F28.kp, F28.binds (ps := P_28) fun _ _ _ _ _ _ us hl => us_3 (fun _ _ _ => rfl) us hl⟩,
      f_29 := F29,
      q_29 := ⟨PySem.W.mg_of X G a29, F29.kp, F29.binds (ps := P_29) fun _ _ _ _ _ _ us hl => us_3 (fun _ _ _ => rfl) us hl⟩,
      f_30 := F30,
      q_30 := ⟨PySem.W.mg_of X G a30, F30.kp, F30.binds (ps := P_30) fun _ _ _ _ _ _ us hl => us_1 (fun _ => rfl) us hl⟩,
      f_31 := F31,
      q_31 := ⟨PySem.W.mg_of X G a31, F31.kp, F31.binds (ps := P_31) fun _ _ _ _ _ _ us hl => us_1 (fun _ => rfl) us hl⟩,
      f_32 := F32,
      q_32 := ⟨PySem.W.mg_of X G a32, F32.kp, F32.binds (ps := P_32) fun _ _ _ _ _ _ us hl => us_2 (fun _ _ => rfl) us hl⟩,
      f_34 := F34,
      q_34 := ⟨PySem.W.mg_of X G a34, F34.kp, F34.binds (ps := P_34) fun _ _ _ _ _ _ us hl => us_2 (fun _ _ => rfl) us hl⟩,
      f_35 := F35,
      q_35 := ⟨PySem.W.mg_of X G a35, F35.kp, F35.binds (ps := P_35) fun _ _ _ _ _ _ us hl => us_2 (fun _ _ => rfl) us hl⟩,
      f_36 := F36,
      q_36 := ⟨PySem.W.mg_of X G a36, F36.kp, F36.binds (ps := P_36) fun _ _ _ _ _ _ us hl => us_2 (fun _ _ => rfl) us hl⟩,
      f_37 := F37,
      q_37 := ⟨PySem.W.mg_of X G a37, F37.kp, F37.binds (ps := P_37) fun _ _ _ _ _ _ us hl => us_2 (fun _ _ => rfl) us hl⟩,
      f_38 := F38,
      q_38 := ⟨PySem.W.mg_of X G a38, F38.kp, F38.binds (ps := P_38) fun _ _ _ _ _ _ us hl => us_4 (fun _ _ _ _ => rfl) us hl⟩,
      f_39 := F39,
      q_39 := ⟨PySem.W.mg_of X G a39, F39.kp, F39.binds (ps := P_39) fun _ _ _ _ _ _ us hl => us_2 (fun _ _ => rfl) us hl⟩,
      f_40 := F40,
      q_40 := ⟨PySem.W.mg_of X G a40, F40.kp, F40.binds (ps := P_40) fun _ _ _ _ _ _ us hl => us_1 (fun _ => rfl) us hl⟩,
      f_41 := F41,
      q_41 := ⟨PySem.W.mg_of X G a41, F41.kp, F41.binds (ps := P_41) fun _ _ _ _ _ _ us hl => us_4 (fun _ _ _ _ => rfl) us hl⟩,
      f_42 := F42,
      q_42 := ⟨PySem.W.mg_of X G a42, F42.kp, F42.binds (ps := P_42) fun _ _ _ _ _ _ us hl => us_2 (fun _ _ => rfl) us hl⟩,
      f_43 := F43,
      q_43 := ⟨PySem.W.mg_of X G a43, F43.kp, F43.binds (ps := P_43) fun _ _ _ _ _ _ us hl => us_3 (fun _ _ _ => rfl) us hl⟩,
      f_44 := F44,
      q_44 := ⟨PySem.W.mg_of X G a44, F44.kp, F44.binds (ps := P_44) fun _ _ _ _ _ _ us hl => us_3 (fun _ _ _ => rfl) us hl⟩,
      f_45 := F45,
      q_45 := ⟨PySem.W.mg_of X G a45, F45.kp, F45.binds (ps := P_45) fun _ _ _ _ _ _ us hl => us_1 (fun _ => rfl) us hl⟩,
      f_46 := F46,
      q_46 := ⟨PySem.W.mg_of X G a46, F46.kp, F46.binds (ps := P_46) fun _ _ _ _ _ _ us hl => us_1 (fun _ => rfl) us hl⟩,
      z_all := PySem.W.mg_none_of X G z_all,
      z_bool := PySem.W.mg_none_of X G z_bool,
      z_enumerate := PySem.W.mg_none_of X G z_enumerate,
      z_int := PySem.W.mg_none_of X G z_int,
      z_isinstance := PySem.W.mg_none_of X G z_isinstance,
      z_len := PySem.W.mg_none_of X G z_len,
      z_list := PySem.W.mg_none_of X G z_list,
      z_max := PySem.W.mg_none_of X G z_max,
      z_min := PySem.W.mg_none_of X G z_min,
      z_range := PySem.W.mg_none_of X G z_range,
      z_set := PySem.W.mg_none_of X G z_set,
      z_sorted := PySem.W.mg_none_of X G z_sorted,
      z_str := PySem.W.mg_none_of X G z_str,
      z_tuple := PySem.W.mg_none_of X G z_tuple,
      c_MOST_DEEDS := ⟨_, PySem.W.mg_of X G q_MOST_DEEDS⟩,
      c_MOST_DEEP := ⟨_, PySem.W.mg_of X G q_MOST_DEEP⟩,
      c_MOST_ITEMS := ⟨_, PySem.W.mg_of X G q_MOST_ITEMS⟩,
      c_MOST_PARTS := ⟨_, PySem.W.mg_of X G q_MOST_PARTS⟩,
      c_MOST_ROUNDS := ⟨_, PySem.W.mg_of X G q_MOST_ROUNDS⟩,
      c_NINE_FIGURES := ⟨_, PySem.W.mg_of X G q_NINE_FIGURES⟩,
      c_TWELVE_FIGURES := ⟨_, PySem.W.mg_of X G q_TWELVE_FIGURES⟩,
      t_LENGTHS := ⟨_, PySem.W.mg_of X G qn_LENGTHS, ⟨⟨_, _, _, ql_LENGTHS, ⟨rfl, rfl, rfl⟩, rfl, ⟨_, _, _, rfl, ⟨_, rfl⟩, rfl, ⟨(.int 2), ⟨_, rfl⟩, .inl ⟨rfl, rfl⟩⟩, ⟨_, _, _, rfl, ⟨_, rfl⟩, rfl, ⟨(.int 2), ⟨_, rfl⟩, .inl ⟨rfl, rfl⟩⟩, ⟨_, _, _, rfl, ⟨_, rfl⟩, rfl, ⟨(.int 2), ⟨_, rfl⟩, .inl ⟨rfl, rfl⟩⟩, ⟨_, _, _, rfl, ⟨_, rfl⟩, rfl, ⟨(.int 3), ⟨_, rfl⟩, .inl ⟨rfl, rfl⟩⟩, ⟨_, _, _, rfl, ⟨_, rfl⟩, rfl, ⟨(.int 3), ⟨_, rfl⟩, .inl ⟨rfl, rfl⟩⟩, rfl⟩⟩⟩⟩⟩⟩, qs_LENGTHS⟩⟩,
      t_NUMBERS := ⟨_, PySem.W.mg_of X G qn_NUMBERS, ⟨⟨_, _, _, ql_NUMBERS, ⟨rfl, rfl, rfl⟩, rfl, ⟨_, _, _, rfl, ⟨_, rfl⟩, rfl, ⟨.ref db_NUMBERS_0, rfl, .inr ⟨_, _, _, _, _, rfl, by rfl, rfl, qv_NUMBERS_0, rfl, rfl, rfl, (show 1 ≤ sizeLine by decide), .cons ⟨_, rfl⟩ (.nil)⟩⟩, ⟨_, _, _, rfl, ⟨_, rfl⟩, rfl, ⟨.ref db_NUMBERS_1, rfl, .inr ⟨_, _, _, _, _, rfl, by rfl, rfl, qv_NUMBERS_1, rfl, rfl, rfl, (show 2 ≤ sizeLine by decide), .cons ⟨_, rfl⟩ (.cons ⟨_, rfl⟩ (.nil))⟩⟩, ⟨_, _, _, rfl, ⟨_, rfl⟩, rfl, ⟨.ref db_NUMBERS_2, rfl, .inr ⟨_, _, _, _, _, rfl, by rfl, rfl, qv_NUMBERS_2, rfl, rfl, rfl, (show 3 ≤ sizeLine by decide), .cons ⟨_, rfl⟩ (.cons ⟨_, rfl⟩ (.cons ⟨_, rfl⟩ (.nil)))⟩⟩, ⟨_, _, _, rfl, ⟨_, rfl⟩, rfl, ⟨.ref db_NUMBERS_3, rfl, .inr ⟨_, _, _, _, _, rfl, by rfl, rfl, qv_NUMBERS_3, rfl, rfl, rfl, (show 4 ≤ sizeLine by decide), .cons ⟨_, rfl⟩ (.cons ⟨_, rfl⟩ (.cons ⟨_, rfl⟩ (.cons ⟨_, rfl⟩ (.nil))))⟩⟩, ⟨_, _, _, rfl, ⟨_, rfl⟩, rfl, ⟨.ref db_NUMBERS_4, rfl, .inr ⟨_, _, _, _, _, rfl, by rfl, rfl, qv_NUMBERS_4, rfl, rfl, rfl, (show 5 ≤ sizeLine by decide), .cons ⟨_, rfl⟩ (.cons ⟨_, rfl⟩ (.cons ⟨_, rfl⟩ (.cons ⟨_, rfl⟩ (.cons ⟨_, rfl⟩ (.nil)))))⟩⟩, ⟨_, _, _, rfl, ⟨_, rfl⟩, rfl, ⟨.ref db_NUMBERS_5, rfl, .inr ⟨_, _, _, _, _, rfl, by rfl, rfl, qv_NUMBERS_5, rfl, rfl, rfl, (show 2 ≤ sizeLine by decide), .cons ⟨_, rfl⟩ (.cons ⟨_, rfl⟩ (.nil))⟩⟩, rfl⟩⟩⟩⟩⟩⟩⟩, qs_NUMBERS⟩⟩ }
  refine ⟨PySem.W.fnOf "law" "law" (defArgs (top 46)) (defBody (top 46)) (defScope (top 46)) .none kV46 dc46 pm46 an46 cd46 ct46, fun s v => .of_eq rfl, fun base _ _ => ?_⟩
  exact FnOk.imp (cn_all (P := l.prog) (w := w) (base := base) A 60).o_46 (sp_law fun ns hl => law_spec ns hl)
theorem walk {l : PySem.W.OpenLaw} {q : Program} {loose : List Str} {XP : (Str → Option Value) → Heap → Prop} {YP : World → Heap → Prop} {d : DefRec} {K : Params → PySem.W.Frag} (hn : l.most = some 63) (hdf : d.params.defaults = [])
    (hY : ∀ (w : World) (h : Heap), YP w h → (K w.params).In h)
    (F : ∀ (w : World) (mg : Str → Option Value) (fa : Addr) (h : Heap), (K w.params).In h → h.Ns mainGlobals mg → mg d.name = some (.ref fa) →
      ∃ fd : FuncData, (∀ (s : Shared) (u : Value), BindsTo s fd ⟨[u], []⟩ [("_law_script", u)]) ∧ ∀ base : Heap, (K w.params).In base → base.Ns mainGlobals mg → FnOk l.prog w (K w.params) mg base CX0 60 fa fd ["_law_script"] (spLaw (K w.params))) :
    PySem.W.WalkO q loose XP YP l.row.toRowW d [] (fun f vs => PySem.call f vs) :=
  L2.walk_of (n := 63) (k := 60) (x := "_law_script") (CX := fun _ => CX0) (sp := fun w => spLaw (K w.params)) hn (by decide) hdf ⟨rfl, by decide, by decide, rfl⟩ hY F (fun _ _ a ns hl _ hS => ⟨a, ns, rfl, hS, hl, fun _ => rfl⟩) fun _ _ _ _ _ z => z
end K09
open PySem PySem.W PyProof.Rows
theorem PySem.W.Fast.te17675193858932896637 : True := trivial
theorem PySem.W.Fast.tw17979490841592023256 : True := trivial
theorem PySem.W.Fast.tw2561340843129709988 : True := trivial
theorem PySem.W.Fast.tw16249147363797498151 : True := trivial
theorem PySem.W.Fast.tw14184154313868491315 : True := trivial
theorem PySem.W.Fast.tw8229722560159494216 : True := trivial
theorem PySem.W.Fast.tw10304178734855395034 : True := trivial
theorem PySem.W.Fast.tw8710384530184572846 : True := trivial
theorem PySem.W.Fast.tw17078040342122547656 : True := trivial
theorem PySem.W.Fast.tw6289335598605146151 : True := trivial
theorem PySem.W.Fast.tw10547629226681619575 : True := trivial
theorem PySem.W.Fast.tw3170195044221723043 : True := trivial
theorem PySem.W.Fast.tw4544731928340375571 : True := trivial
theorem PySem.W.Fast.tw2656827750546880998 : True := trivial
theorem PySem.W.Fast.tw17926019437735326012 : True := trivial
theorem PySem.W.Fast.tw18224563547375539232 : True := trivial
theorem PySem.W.Fast.tw2557174350170140026 : True := trivial
theorem PySem.W.Fast.tw14092958804521729945 : True := trivial
theorem PySem.W.Fast.tw16792992339714107351 : True := trivial
theorem PySem.W.Fast.tw15096094683967343592 : True := trivial
theorem PySem.W.Fast.tw9467021286229084822 : True := trivial
theorem PySem.W.Fast.tw17064000183608595977 : True := trivial
theorem PySem.W.Fast.tw10198560562044915441 : True := trivial
theorem PySem.W.Fast.tw8523514570090018258 : True := trivial
theorem PySem.W.Fast.tw12715156376543267994 : True := trivial
theorem PySem.W.Fast.tw15803703957533655691 : True := trivial
theorem PySem.W.Fast.tw1061878251948217193 : True := trivial
theorem PySem.W.Fast.tw13241424525704743102 : True := trivial
theorem PySem.W.Fast.tw10118471999379184537 : True := trivial
theorem PySem.W.Fast.tw3115388189989319887 : True := trivial
theorem PySem.W.Fast.tw10560774129661673288 : True := trivial
theorem PySem.W.Fast.tw7017448688484532898 : True := trivial
theorem PySem.W.Fast.tw5557118157959851975 : True := trivial
theorem PySem.W.Fast.tw860089066858053936 : True := trivial
theorem PySem.W.Fast.tw15042978472171084347 : True := trivial
theorem PySem.W.Fast.tw1255761686742628287 : True := trivial
theorem PySem.W.Fast.tw5422036013737617664 : True := trivial
theorem PySem.W.Fast.tw2106830598004102817 : True := trivial
theorem PySem.W.Fast.tw16576210785129083079 : True := trivial
theorem PySem.W.Fast.tw9148114044271533640 : True := trivial
theorem PySem.W.Fast.tw9212886809479830386 : True := trivial
theorem PySem.W.Fast.tw10724435185938104072 : True := trivial
theorem PySem.W.Fast.tw14571128046576433380 : True := trivial
theorem PySem.W.Fast.tw10971044460777540800 : True := trivial
theorem PySem.W.Fast.tw4747783285344481936 : True := trivial
theorem PySem.W.Fast.tw13514773866365774863 : True := trivial
theorem PySem.W.Fast.tw6207034871587545880 : True := trivial
theorem PySem.W.Fast.tw4750034717370878957 : True := trivial
theorem PySem.W.Fast.tw5209422983271313711 : True := trivial
theorem PySem.W.Fast.tw195393590572247958 : True := trivial
theorem PySem.W.Fast.tw753700816878297267 : True := trivial
theorem PySem.W.Fast.tw5654060475349195782 : True := trivial
theorem PySem.W.Fast.tw10978379167002314306 : True := trivial
theorem PySem.W.Fast.tw13117653814481089697 : True := trivial
set_option maxRecDepth 100000 in
set_option maxHeartbeats 0 in
theorem PySem.Challenge.cw_wholeglance_k09_what_are_no_jobs_holds : PySem.Challenge.rw_wholeglance_k09_what_are_no_jobs.Holds := by
  w_on; o_law; k_head; (case hw => w_witness2)
  k_fill
  refine K09.walk (l := PySem.Challenge.rw_wholeglance_k09_what_are_no_jobs) rfl rfl (fun w h Y => PySem.W.kIn_of Y) ?F
  case F =>
    intro w mg fa h KX G hmg
    refine' K09.all_mk KX G hmg ?a1 ?l1 ?e1 ?k1 ?a2 ?l2 ?e2 ?k2 ?a3 ?l3 ?e3 ?k3 ?a4 ?l4 ?e4 ?k4 ?a5 ?l5 ?e5 ?k5 ?a8 ?l8 ?e8 ?k8 ?a9 ?l9 ?e9 ?k9 ?a10 ?l10 ?e10 ?k10 ?a15 ?l15 ?e15 ?k15 ?a16 ?l16 ?e16 ?k16 ?a18 ?l18 ?e18 ?k18 ?a19 ?l19 ?e19 ?k19 ?a20 ?l20 ?e20 ?k20 ?a27 ?l27 ?e27 ?k27 ?a28 ?l28 ?e28 ?k28 ?a29 ?l29 ?e29 ?k29 ?a30 ?l30 ?e30 ?k30 ?a31 ?l31 ?e31 ?k31 ?a32 ?l32 ?e32 ?k32 ?a34 ?l34 ?e34 ?k34 ?a35 ?l35 ?e35 ?k35 ?a36 ?l36 ?e36 ?k36 ?a37 ?l37 ?e37 ?k37 ?a38 ?l38 ?e38 ?k38 ?a39 ?l39 ?e39 ?k39 ?a40 ?l40 ?e40 ?k40 ?a41 ?l41 ?e41 ?k41 ?a42 ?l42 ?e42 ?k42 ?a43 ?l43 ?e43 ?k43 ?a44 ?l44 ?e44 ?k44 ?a45 ?l45 ?e45 ?k45 ?a46 ?l46 ?e46 ?k46 ?z_all ?z_bool ?z_enumerate ?z_int ?z_isinstance ?z_len ?z_list ?z_max ?z_min ?z_range ?z_set ?z_sorted ?z_str ?z_tuple ?q_MOST_DEEDS ?q_MOST_DEEP ?q_MOST_ITEMS ?q_MOST_PARTS ?q_MOST_ROUNDS ?q_NINE_FIGURES ?q_TWELVE_FIGURES ?qn_LENGTHS ?ql_LENGTHS ?qs_LENGTHS ?qn_NUMBERS ?ql_NUMBERS ?qv_NUMBERS_0 ?qv_NUMBERS_1 ?qv_NUMBERS_2 ?qv_NUMBERS_3 ?qv_NUMBERS_4 ?qv_NUMBERS_5 ?qs_NUMBERS
    all_goals try first | k_is | rfl
