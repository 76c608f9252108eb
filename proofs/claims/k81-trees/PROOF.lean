import PyProof.Rows.All
import Wide.All
import OpenK.AllK
import Wide.FinOn
import Lean
import PyProof.EqAt
import PyProof.EqKinds
import PyProof.TupleCall
import PySem.Challenge.RW_treeright_k81_trees_as_texts
set_option Elab.async false
set_option linter.all false
set_option maxRecDepth 100000
namespace L2
open PySem PySem.Spec PyProof.Rows
noncomputable abbrev Key := Sum Int Str
noncomputable def keyIs : Key → Value → Bool
  | .inl k, v => Value.isInt k v
  | .inr x, v => Value.isStrOf x v
noncomputable def keyH (w : World) : Key → Int
  | .inl k => hashInt k
  | .inr x => hashStr w x
theorem keyIs_shape : ∀ {k : Key} {v : Value}, keyIs k v = true → (∃ i t, k = Sum.inl i ∧ v = Value.int i t) ∨ (∃ x t, k = Sum.inr x ∧ v = Value.str x t)
  | .inl i, v, h => by
    obtain ⟨t, e⟩ := Value.isInt_shape (k := i) (v := v) h
    exact .inl ⟨i, t, rfl, e⟩
  | .inr x, v, h => by
    obtain ⟨t, e⟩ := Value.isStrOf_shape (x := x) (v := v) h
    exact .inr ⟨x, t, rfl, e⟩
theorem keyIs_int (i : Int) (t : Tok) : keyIs (.inl i) (.int i t) = true := by simp [keyIs, Value.isInt]
theorem keyIs_str (x : Str) (t : Tok) : keyIs (.inr x) (.str x t) = true := by simp [keyIs, Value.isStrOf]
theorem key_ll (a b : Int) : decide ((Sum.inl a : Key) = Sum.inl b) = (a == b) := by
  by_cases e : a = b
  · subst e; simp
  · have h : ¬ (Sum.inl a : Key) = Sum.inl b := fun q => e (Sum.inl.inj q)
    rw [decide_eq_false h]
    exact (beq_eq_false_iff_ne.mpr e).symm
theorem key_rr (a b : Str) : decide ((Sum.inr a : Key) = Sum.inr b) = decide (a = b) := by
  by_cases e : a = b
  · subst e; simp
  · have h : ¬ (Sum.inr a : Key) = Sum.inr b := fun q => e (Sum.inr.inj q)
    rw [decide_eq_false h, decide_eq_false e]
theorem key_lr (a : Int) (b : Str) : decide ((Sum.inl a : Key) = Sum.inr b) = false := decide_eq_false (fun q => nomatch q)
theorem key_rl (a : Str) (b : Int) : decide ((Sum.inr a : Key) = Sum.inl b) = false := decide_eq_false (fun q => nomatch q)
noncomputable def mixKind (prog : Program) (w : World) : PySem.KeyKind prog w Key where
  is := keyIs
  hash := keyH w
  inj := fun v a b ha hb => by
    rcases keyIs_shape ha with ⟨i, t, rfl, rfl⟩ | ⟨x, t, rfl, rfl⟩
    · rcases keyIs_shape hb with ⟨j, u, rfl, e⟩ | ⟨y, u, rfl, e⟩
      · injection e with e1 _; rw [e1]
      · exact nomatch e
    · rcases keyIs_shape hb with ⟨j, u, rfl, e⟩ | ⟨y, u, rfl, e⟩
      · exact nomatch e
      · injection e with e1 _; rw [e1]
  byValue := fun k v h => by
    rcases keyIs_shape h with ⟨i, t, rfl, rfl⟩ | ⟨x, t, rfl, rfl⟩ <;> rfl
  pyHash := fun hv h => by
    rcases keyIs_shape hv with ⟨i, t, rfl, rfl⟩ | ⟨x, t, rfl, rfl⟩
    · exact wpAny_pyHash_int h
    · exact wpAny_pyHash_str h
  eqBool := fun hu hv h => by
    rcases keyIs_shape hu with ⟨i, t, rfl, rfl⟩ | ⟨x, t, rfl, rfl⟩
    · rcases keyIs_shape hv with ⟨j, u, rfl, rfl⟩ | ⟨y, u, rfl, rfl⟩
      · rw [key_ll] at h; exact wpAny_eqBool_int h
      · rw [key_lr] at h; exact SeqAt.EqAt.int_str i t y u _ _ _ _ h
    · rcases keyIs_shape hv with ⟨j, u, rfl, rfl⟩ | ⟨y, u, rfl, rfl⟩
      · rw [key_rl] at h; exact SeqAt.EqAt.str_int x t j u _ _ _ _ h
      · rw [key_rr] at h; exact wpAny_eqBool_str h
  «strs» := fun k x t v h => by
    rcases keyIs_shape h with ⟨i, u, rfl, e⟩ | ⟨y, u, rfl, e⟩
    · exact nomatch e
    · injection e with e1 _
      subst e1
      cases v <;> rfl
theorem mixKind_int (prog : Program) (w : World) (i : Int) (t : Tok) : (mixKind prog w).is (.inl i) (.int i t) = true := keyIs_int i t
theorem mixKind_str (prog : Program) (w : World) (x : Str) (t : Tok) : (mixKind prog w).is (.inr x) (.str x t) = true := keyIs_str x t
end L2
namespace L2
open PySem PySem.Spec PyProof.Rows
inductive V where
  | non | bl (b : Bool) | int (i : Int) | str (x : Str) | byt (b : Array UInt8) | flt (b : UInt64) | ref (a : Addr) | ty (n : String)
  deriving DecidableEq
noncomputable def RelV : V → Value → Prop
  | .non, u => u = Value.none
  | .bl b, u => u = Value.bool b
  | .int i, u => ∃ t, u = Value.int i t
  | .str x, u => ∃ t, u = Value.str x t
  | .byt b, u => ∃ t, u = Value.bytes b t
  | .flt b, u => ∃ t, u = Value.float b t
  | .ref a, u => u = Value.ref a
  | .ty n, u => u = Value.type n
noncomputable abbrev Vals : List V → List Value → Prop := Paired RelV
theorem Vals.length {xs : List V} {us : List Value} (r : Vals xs us) : xs.length = us.length := Paired.length r
theorem Vals.get : ∀ {xs : List V} {us : List Value} {i : Nat} {x : V}, Vals xs us → xs[i]? = some x → ∃ u, us[i]? = some u ∧ RelV x u
  | _, _, _, _, .nil, e => by simp at e
  | _, _, 0, _, .cons r _, e => by simp at e; subst e; exact ⟨_, rfl, r⟩
  | _, _, i + 1, x, .cons _ t, e => by
    obtain ⟨u, h1, h2⟩ := Vals.get (i := i) (x := x) t (by simpa using e)
    exact ⟨u, by simpa using h1, h2⟩
theorem Vals.set {x : V} {u : Value} (r : RelV x u) : ∀ {xs : List V} {us : List Value} (i : Nat), Vals xs us → Vals (xs.set i x) (us.set i u)
  | _, _, _, .nil => .nil
  | _, _, 0, .cons _ t => .cons r t
  | _, _, i + 1, .cons q t => .cons q (Vals.set r i t)
theorem Vals.append {xs ys : List V} {us ws : List Value} (h : Vals xs us) (s : Vals ys ws) : Vals (xs ++ ys) (us ++ ws) := by
  induction h with
  | nil => exact s
  | cons r _ ih => exact .cons r ih
theorem Vals.take : ∀ {xs : List V} {us : List Value} (n : Nat), Vals xs us → Vals (xs.take n) (us.take n)
  | _, _, 0, _ => .nil
  | _, _, _ + 1, .nil => .nil
  | _, _, n + 1, .cons r t => .cons r (Vals.take n t)
theorem Vals.drop : ∀ {xs : List V} {us : List Value} (n : Nat), Vals xs us → Vals (xs.drop n) (us.drop n)
  | _, _, 0, r => r
  | _, _, _ + 1, .nil => .nil
  | _, _, n + 1, .cons _ t => Vals.drop n t
noncomputable def RelO : Option V → Option Value → Prop
  | some v, some u => RelV v u
  | none, none => True
  | _, _ => False
noncomputable def KV {κ : Type} : List (κ × V) → List (κ × Value) → Prop := Paired fun (p : κ × V) (q : κ × Value) => p.1 = q.1 ∧ RelV p.2 q.2
noncomputable def kV : Key → V
  | .inl i => .int i
  | .inr x => .str x
inductive HO where
  | lst (xs : List V)
  | tup (xs : List V)
  | dK (kvs : List (Key × V)) | dT (kvs : List (List Key × V))
  | set (S : Int → Bool) (n : Nat)
  | ins (C dx : Addr) (fs : List (Str × V))
  | own (x : Addr)
  | xd (fs : List (Str × V))
  | met (f x : Addr)
  | rng (lo hi : Int)
  | frz (o : Obj) (u : HO)
  | tbl (ps : Array Value)
  | ext (φ : Heap → Prop)
noncomputable abbrev Hp := Addr → Option HO
noncomputable def upd (H : Hp) (a : Addr) (o : HO) : Hp := fun b => if b = a then some o else H b
theorem upd_same {H : Hp} {a : Addr} {o : HO} : upd H a o a = some o := by unfold upd; rw [if_pos rfl]
theorem upd_ne {H : Hp} {a b : Addr} {o : HO} (h : b ≠ a) : upd H a o b = H b := by unfold upd; rw [if_neg h]
theorem upd_upd {H : Hp} {a : Addr} {o u : HO} : upd (upd H a o) a u = upd H a u := by
  funext b; unfold upd; split <;> rfl
theorem ne_of {H : Hp} {a b : Addr} {o u : HO} (h : H a = some o) (h' : H b = some u) (d : o ≠ u) : a ≠ b := by
  intro e; subst e; rw [h] at h'; exact d (Option.some.inj h')
theorem ne_of_none {H : Hp} {a b : Addr} {o : HO} (h : H a = some o) (h' : H b = none) : a ≠ b := by
  intro e; subst e; rw [h] at h'; cases h'
section
variable (P : Program) (w : World)
noncomputable def ObjOk (H : Hp) (h : Heap) (a : Addr) : HO → Prop
  | .lst xs => xs.length ≤ sizeLine ∧ ∃ (its : List Value) (n : Nat), Vals xs its ∧ h.get? a = some { cls := .type "list", data := .seq its.toArray n }
  | .tup xs => xs.length ≤ sizeLine ∧ ∃ its : List Value, Vals xs its ∧ IsTup h a its.toArray
  | .dK kvs => kvs.length ≤ sizeLine ∧ (a == sysModules) = false ∧ ∃ vs, KV kvs vs ∧ h.DictOf (mixKind P w) a vs
  | .dT kvs => kvs.length ≤ sizeLine ∧ (a == sysModules) = false ∧ ∃ xs : List (List Key × Addr × Value),
      Paired (fun (p : List Key × V) (q : List Key × Addr × Value) => p.1 = q.1 ∧ H q.2.1 = some (.tup (p.1.map kV)) ∧ RelV p.2 q.2.2) kvs xs ∧
      ∃ o es ep, h.get? a = some o ∧ o.ExactDict ∧ o.data = .dict es ep ∧ es.toList = xs.map (entryOfKey (tupleKind (mixKind P w))) ∧ (xs.map (·.1)).Nodup
  | .set S n => h.SetOf (intKind P w) a S n
  | .ins C dx fs => H dx = some (.own a) ∧ fs.length ≤ 1000 ∧ dx ≠ a ∧ h.get? a = some (PySem.W.instObj C dx) ∧
      ∃ mA, h.Ns1 dx mA ∧ (∀ f, RelO (fs.lookup f) (mA f)) ∧ PySem.Within mA (fs.map (·.1))
  | .own _ => ∃ o, h.get? a = some o
  | .xd fs => ∃ mA, h.Ns1 a mA ∧ ∀ f, RelO (fs.lookup f) (mA f)
  | .rng lo hi => ∃ t u v, h.get? a = some { cls := .type "range", data := .fields #[.int lo t, .int hi u, .int 1 v] }
  | .frz o u => h.get? a = some o ∧ ObjOk H h a u
  | .tbl ps => h.get? a = some { cls := .none, data := .fields ps }
  | .met f x => h.get? a = some (PySem.W.methodObj (.ref f) (.ref x))
  | .ext φ => φ h ∧ (∃ o, h.get? a = some o) ∧ ∀ h1 h2 : Heap, φ h1 → (∀ o, h1.get? a = some o → h2.get? a = some o) → φ h2
noncomputable def HOk (H : Hp) (h : Heap) : Prop := ∀ a o, H a = some o → ObjOk P w H h a o
end
section
variable {P : Program} {w : World} {H H' : Hp} {h h' : Heap} {a : Addr} {o : HO}
theorem ObjOk.lt (x : ObjOk P w H h a o) : a < h.objs.size := by
  cases o with
  | lst xs => obtain ⟨_, _, _, _, e⟩ := x; exact Heap.lt_size e
  | tup xs => obtain ⟨_, _, _, p⟩ := x; exact p.lt
  | dK kvs => obtain ⟨_, _, _, _, o, _, _, e, _⟩ := x; exact Heap.lt_size e
  | dT kvs => obtain ⟨_, _, _, _, o, _, _, e, _⟩ := x; exact Heap.lt_size e
  | set S n => obtain ⟨o, _, _, _, e, _⟩ := x; exact Heap.lt_size e
  | ins C dx fs => obtain ⟨_, _, _, e, _⟩ := x; exact Heap.lt_size e
  | own y => obtain ⟨_, e⟩ := x; exact Heap.lt_size e
  | xd fs => obtain ⟨_, ⟨_, _, _, e, _⟩, _⟩ := x; exact Heap.lt_size e
  | rng lo hi => obtain ⟨_, _, _, e⟩ := x; exact Heap.lt_size e
  | frz ob u => obtain ⟨e, _⟩ := x; exact Heap.lt_size e
  | tbl ps => exact Heap.lt_size (show h.get? a = some _ from x)
  | met f y => exact Heap.lt_size (show h.get? a = some _ from x)
  | ext φ => obtain ⟨_, ⟨_, e⟩, _⟩ := x; exact Heap.lt_size e
theorem Paired.mapP {α β : Type} {F G : α → β → Prop} {l₁ : List α} {l₂ : List β} (h : Paired F l₁ l₂) (f : ∀ a b, F a b → G a b) : Paired G l₁ l₂ := by
  induction h with
  | nil => exact .nil
  | cons r _ ih => exact .cons (f _ _ r) ih
theorem ObjOk.stay (x : ObjOk P w H h a o) (k : ∀ b u, (b = a ∨ H b = some (.own a)) → h.get? b = some u → h'.get? b = some u)
    (ho : ∀ b, H b = some (.own a) → H' b = some (.own a)) (ht : ∀ b xs, H b = some (.tup xs) → H' b = some (.tup xs)) : ObjOk P w H' h' a o := by
  induction o with
  | lst xs => obtain ⟨z, its, n, r, e⟩ := x; exact ⟨z, its, n, r, k _ _ (.inl rfl) e⟩
  | tup xs => obtain ⟨z, its, r, ob, e, c⟩ := x; exact ⟨z, its, r, ob, k _ _ (.inl rfl) e, c⟩
  | dK kvs => obtain ⟨z, y, vs, r, ob, es, ep, e, c⟩ := x; exact ⟨z, y, vs, r, ob, es, ep, k _ _ (.inl rfl) e, c⟩
  | dT kvs =>
    obtain ⟨z, y, xs, r, ob, es, ep, e, c⟩ := x
    exact ⟨z, y, xs, Paired.mapP r fun p q z => ⟨z.1, ht _ _ z.2.1, z.2.2⟩, ob, es, ep, k _ _ (.inl rfl) e, c⟩
  | set S n => obtain ⟨ob, es, ep, t, e, c⟩ := x; exact ⟨ob, es, ep, t, k _ _ (.inl rfl) e, c⟩
  | ins C dx fs =>
    obtain ⟨d, z, ne, e, mA, ⟨od, es, ep, e2, c⟩, r⟩ := x
    exact ⟨ho _ d, z, ne, k _ _ (.inl rfl) e, mA, ⟨od, es, ep, k _ _ (.inr d) e2, c⟩, r⟩
  | own y => obtain ⟨ob, e⟩ := x; exact ⟨ob, k _ _ (.inl rfl) e⟩
  | xd fs => obtain ⟨mA, ⟨od, es, ep, e, c⟩, r⟩ := x; exact ⟨mA, ⟨od, es, ep, k _ _ (.inl rfl) e, c⟩, r⟩
  | rng lo hi => obtain ⟨t, u, v, e⟩ := x; exact ⟨t, u, v, k _ _ (.inl rfl) e⟩
  | frz ob u ih => obtain ⟨e, q⟩ := x; exact ⟨k _ _ (.inl rfl) e, ih q⟩
  | tbl ps =>
    have e : h.get? a = some { cls := .none, data := .fields ps } := x
    show h'.get? a = some { cls := .none, data := .fields ps }
    exact k a _ (.inl rfl) e
  | met f y =>
    have e : h.get? a = some (PySem.W.methodObj (.ref f) (.ref y)) := x
    show h'.get? a = some (PySem.W.methodObj (.ref f) (.ref y))
    exact k a _ (.inl rfl) e
  | ext φ => obtain ⟨p, ⟨o, e⟩, st⟩ := x; exact ⟨st _ _ p fun o q => k _ _ (.inl rfl) q, ⟨o, k _ _ (.inl rfl) e⟩, st⟩
theorem HOk.lt (x : HOk P w H h) (e : H a = some o) : a < h.objs.size := (x a o e).lt
theorem HOk.fresh (x : HOk P w H h) (e : h.objs.size ≤ a) : H a = none := by
  cases q : H a with
  | none => rfl
  | some u => exact absurd (Nat.lt_of_lt_of_le (x.lt q) e) (Nat.lt_irrefl _)
theorem HOk.kept (x : HOk P w H h) (k : ∀ b u, h.get? b = some u → h'.get? b = some u) : HOk P w H h' := fun a o e =>
  (x a o e).stay (fun b u _ q => k b u q) (fun _ q => q) fun _ _ q => q
theorem HOk.laid (x : HOk P w H h) (k : ∀ b u, h.get? b = some u → h'.get? b = some u) (hp : h.objs.size ≤ a) (new : ObjOk P w (upd H a o) h' a o) : HOk P w (upd H a o) h' := fun b u e => by
  have hn := x.fresh hp
  by_cases hb : b = a
  · subst hb; rw [upd_same] at e; cases e; exact new
  · rw [upd_ne hb] at e
    exact (x b u e).stay (fun c v _ q => k c v q) (fun c q => by rw [upd_ne (ne_of_none q hn)]; exact q) fun c xs q => by rw [upd_ne (ne_of_none q hn)]; exact q
end
noncomputable def Rd (H : Hp) (a : Addr) (u : HO) : Prop := H a = some u ∨ ∃ o, H a = some (.frz o u)
theorem Rd.ok {P : Program} {w : World} {H : Hp} {h : Heap} {a : Addr} {u : HO} (r : Rd H a u) (x : HOk P w H h) : ObjOk P w H h a u := by
  rcases r with r | ⟨o, r⟩
  · exact x a u r
  · obtain ⟨_, q⟩ := x a _ r
    exact q
noncomputable def Mut : Option HO → Prop
  | some (.lst _) => True
  | some (.dK _) => True
  | some (.dT _) => True
  | some (.set _ _) => True
  | some (.ins _ _ _) => True
  | some (.ext _) => True
  | _ => False
section
variable {P : Program} {w : World} {H : Hp} {h h' : Heap} {x e : Addr} {o' : HO}
theorem HOk.write (ok : HOk P w H h) (mu : Mut (H x)) (he : e = x ∨ H e = some (.own x)) (k : ∀ b u, b ≠ e → h.get? b = some u → h'.get? b = some u) (heo : ∃ u, h'.get? e = some u)
    (new : ObjOk P w (upd H x o') h' x o') : HOk P w (upd H x o') h' := fun b u q => by
  have nown : ∀ c y, H c = some (.own y) → c ≠ x := fun c y r z => by subst z; rw [r] at mu; exact mu
  have ntup : ∀ c xs, H c = some (.tup xs) → c ≠ x := fun c xs r z => by subst z; rw [r] at mu; exact mu
  by_cases hb : b = x
  · subst hb; rw [upd_same] at q; cases q; exact new
  · rw [upd_ne hb] at q
    by_cases hbe : b = e
    · have q' : H b = some (.own x) := by
        rcases he with z | z
        · exact absurd (hbe.trans z) hb
        · rw [hbe]; exact z
      rw [q] at q'; cases q'
      obtain ⟨v, hv⟩ := heo
      exact ⟨v, by rw [hbe]; exact hv⟩
    · refine (ok b u q).stay (fun c v hc r => k c v ?_ r) (fun c r => by rw [upd_ne (nown c b r)]; exact r) fun c xs r => by rw [upd_ne (ntup c xs r)]; exact r
      rcases hc with rfl | hc
      · exact hbe
      · rintro rfl
        rcases he with z | z
        · exact nown c b hc z
        · rw [hc] at z; cases z; exact hb rfl
end
structure Un (fs ex : List Addr) (H H' : Hp) (h h' : Heap) : Prop where
  keep : ∀ b o, h.get? b = some o → H b = none → b ∉ fs → b ∉ ex → h'.get? b = some o
  slot : ∀ b o, h.get? b = some o → H b = none → b ∈ fs → b ∉ ex → ∃ sl, h'.get? b = some { o with slots := sl }
  free : ∀ b o, h.get? b = some o → H b = none → b ∉ ex → H' b = none
  there : ∀ b o, h.get? b = some o → b ∉ ex → ∃ o', h'.get? b = some o'
  tups : ∀ b xs, H b = some (.tup xs) → H' b = some (.tup xs)
  frzs : ∀ b o u, H b = some (.frz o u) → H' b = some (.frz o u)
  tbls : ∀ b ps, H b = some (.tbl ps) → ∃ more, H' b = some (.tbl (ps ++ more))
section
variable {fs fs' ex ex' : List Addr} {H H1 H2 : Hp} {h h1 h2 h' : Heap} {a x e : Addr} {o : HO}
theorem Un.any (u : Un fs ex H H1 h h1) {b : Addr} {ob : Obj} (q : h.get? b = some ob) (n : H b = none) (hx : b ∉ ex) : ∃ sl, h1.get? b = some { ob with slots := sl } := by
  by_cases hb : b ∈ fs
  · exact u.slot b ob q n hb hx
  · exact ⟨ob.slots, u.keep b ob q n hb hx⟩
theorem Un.kept (k : ∀ b u, h.get? b = some u → h'.get? b = some u) : Un fs ex H H h h' :=
  ⟨fun b ob q _ _ _ => k b ob q, fun b ob q _ _ _ => ⟨ob.slots, k b ob q⟩, fun _ _ _ n _ => n, fun b ob q _ => ⟨ob, k b ob q⟩, fun _ _ q => q, fun _ _ _ q => q, fun _ ps q => ⟨#[], by rw [q]; simp⟩⟩
theorem Un.refl : Un fs ex H H h h := Un.kept fun _ _ q => q
theorem Un.laid (k : ∀ b u, h.get? b = some u → h'.get? b = some u) (hp : h.objs.size ≤ a) (hn : H a = none) : Un fs ex H (upd H a o) h h' where
  keep := fun b u q _ _ _ => k b u q
  slot := fun b u q _ _ _ => ⟨u.slots, k b u q⟩
  free := fun b u q n _ => by rw [upd_ne (Nat.ne_of_lt (Nat.lt_of_lt_of_le (Heap.lt_size q) hp))]; exact n
  there := fun b u q _ => ⟨u, k b u q⟩
  tups := fun b xs q => by rw [upd_ne (ne_of_none q hn)]; exact q
  frzs := fun b u xs q => by rw [upd_ne (ne_of_none q hn)]; exact q
  tbls := fun b ps q => ⟨#[], by rw [upd_ne (ne_of_none q hn), q]; simp⟩
theorem Un.write (mu : Mut (H x)) (he : e = x ∨ H e = some (.own x)) (k : ∀ b u, b ≠ e → h.get? b = some u → h'.get? b = some u) (heo : ∃ u, h'.get? e = some u) : Un fs ex H (upd H x o) h h' := by
  have hx : ∀ b, H b = none → b ≠ x := fun b n z => by subst z; rw [n] at mu; exact mu
  have hb : ∀ b, H b = none → b ≠ e := fun b n z => by
    subst z
    rcases he with r | r
    · exact hx b n r
    · rw [n] at r; cases r
  have hm : ∀ b u, H b = some u → ¬ Mut (some u) → b ≠ x := fun b u q nm z => by subst z; rw [q] at mu; exact nm mu
  refine ⟨fun b u q n _ _ => k b u (hb b n) q, fun b u q n _ _ => ⟨u.slots, k b u (hb b n) q⟩, fun b u q n _ => by rw [upd_ne (hx b n)]; exact n, fun b u q _ => ?_,
    fun b xs q => by rw [upd_ne (hm b _ q fun z => z)]; exact q, fun b u xs q => by rw [upd_ne (hm b _ q fun z => z)]; exact q, fun b ps q => ⟨#[], by rw [upd_ne (hm b _ q fun z => z), q]; simp⟩⟩
  by_cases hbe : b = e
  · subst hbe; exact heo
  · exact ⟨u, k b u hbe q⟩
end
noncomputable def trk (h : Heap) (H : Hp) : List Addr := (List.range h.objs.size).filter fun a => (H a).isSome
noncomputable def hidT (h : Heap) (H : Hp) : Heap := PySem.W.hideAll h (trk h H)
theorem hidT_size (h : Heap) (H : Hp) : (hidT h H).objs.size = h.objs.size := PySem.W.hideAll_size _ _
theorem hidT_get {h : Heap} {H : Hp} {b : Addr} {o : Obj} (e : h.get? b = some o) (n : H b = none) : (hidT h H).get? b = some o :=
  PySem.W.hideAll_get _ e fun hm => by
    have q : (H b).isSome = true := (List.mem_filter.mp hm).2
    rw [n] at q; simp at q
theorem of_hidT {h : Heap} {H : Hp} {b : Addr} {o : Obj} (e : (hidT h H).get? b = some o) : h.get? b = some o ∧ H b = none := by
  have e' : h.get? b = some o := PySem.W.of_hideAll (trk h H) e
  refine ⟨e', ?_⟩
  cases q : H b with
  | none => rfl
  | some x =>
    have hm : b ∈ trk h H := List.mem_filter.mpr ⟨List.mem_range.mpr (Heap.lt_size e'), by simp [q]⟩
    have z : (hidT h H).get? b = none := PySem.W.hideAll_none (trk h H) hm
    rw [z] at e; cases e
end L2
namespace L2
open PySem PySem.Spec PyProof.Rows
structure Mod (K : PySem.W.Frag) (mg : Str → Option Value) (base : Heap) : Prop where
  kin : K.In base
  glob : base.Ns mainGlobals mg
  blt : ∃ mb, base.Ns builtinsNs mb ∧ ∀ x : Str, x ≠ "__name__" → mb x = bootBuiltins x
  nolimit : base.NoLimit
structure Cx where
  prog : Program
  w : World
  K : PySem.W.Frag
  mg : Str → Option Value
  base : Heap
  A : Around
  N : List Str
  s₀ : Shared
  H₀ : Hp
  env : Env
  outer : List Env
  stack : List Env
  ex : List Addr
  fn : Str → Bool
  calm : Bool
  pn : List (Addr × Obj)
  xe : Value → Shared → Prop
noncomputable def frs (l : List Env) : List Addr := l.filterMap (·.frame)
noncomputable abbrev Cx.fs (X : Cx) : List Addr := frs X.outer
noncomputable def Vis (sc : Scope) (x : Str) : Prop := sc.names.lookup x = some .local ∨ sc.names.lookup x = some .cell ∨ sc.names.lookup x = some .free
noncomputable def Loc (sc : Scope) (x : Str) : Prop := sc.names.lookup x = some .local ∨ sc.names.lookup x = some .cell
noncomputable def Look (env : Env) (h : Heap) (m : Str → Option Value) (x : Str) (u : Value) : Prop :=
  (env.kindOf x = some .local ∧ m x = some u) ∨ ((env.kindOf x = some .cell ∨ env.kindOf x = some .free) ∧ ∃ c, env.cells.lookup x = some c ∧ h.IsCell c (some u))
structure Cx.Ok (X : Cx) : Prop where
  mod : Mod X.K X.mg X.base
  kind : X.env.scope.kind = .function
  glob : X.env.globals = mainGlobals
  blt : X.env.builtins = builtinsNs
  above : X.s₀.heap.objs.size ≤ X.env.locals
  inj : ∀ x y c, X.env.cells.lookup x = some c → X.env.cells.lookup y = some c → x = y
  has : ∀ x, (X.env.kindOf x = some .cell ∨ X.env.kindOf x = some .free) → ∃ c, X.env.cells.lookup x = some c
  cab : ∀ x c, X.fn x = true → X.env.cells.lookup x = some c → X.s₀.heap.objs.size ≤ c
  hd : X.calm = true → X.A.handled = none
  frames : X.A.frames = some X.stack
  stk : X.stack = X.outer ∨ (X.stack = X.env :: X.outer ∧ X.env.frame = some X.env.locals)
  exf : ∀ b ∈ X.ex, b ≠ X.env.locals ∧ ∀ x c, X.env.cells.lookup x = some c → c ≠ b
  bs : ∀ b o, X.base.get? b = some o → X.s₀.heap.get? b = some o ∧ X.H₀ b = none
  bsz : X.base.objs.size ≤ X.s₀.heap.objs.size
  noex : ∀ b o, X.base.get? b = some o → b ∉ X.ex
  exfs : ∀ b ∈ X.ex, b ∉ X.fs
  funs : X.s₀.heap.FunFrames X.base X.outer
  frf : ∀ b ∈ X.fs, X.H₀ b = none
structure Inv (X : Cx) (pins : List (Addr × Obj)) (σ : List (Option V)) (H : Hp) (s : Shared) : Prop where
  ok : X.Ok
  os : s.os = X.s₀.os
  bare : AllBare s.gens
  base : Un X.fs X.ex X.H₀ H X.s₀.heap s.heap
  loc : ∃ m, s.heap.Ns X.env.locals m ∧ ∀ (i : Nat) (x : Str) (v : V), X.N[i]? = some x → σ[i]? = some (some v) → Vis X.env.scope x → ∃ u, RelV v u ∧ Look X.env s.heap m x u
  cell : ∀ x c, X.env.cells.lookup x = some c → ∃ v, s.heap.IsCell c v
  free : H X.env.locals = none
  freeC : ∀ x c, X.env.cells.lookup x = some c → H c = none
  pin : ∀ p ∈ X.pn ++ pins, s.heap.get? p.1 = some p.2 ∧ H p.1 = none ∧ p.1 ≠ X.env.locals ∧ p.1 ∉ X.fs ∧ ∀ v, p.2.data ≠ .cell v
  hok : HOk X.prog X.w H s.heap
  len : σ.length = X.N.length
section
variable {X : Cx} {pins : List (Addr × Obj)} {σ : List (Option V)} {H H' : Hp} {s : Shared} {h' : Heap}
theorem Cx.Ok.nofr (ok : X.Ok) {b : Addr} {o : Obj} (e : X.base.get? b = some o) : b ∉ X.fs := fun hb => by
  have := (ok.funs.mem hb).1
  rw [e] at this; cases this
theorem Inv.bs (I : Inv X pins σ H s) : ∀ b o, X.base.get? b = some o → s.heap.get? b = some o ∧ H b = none := fun b o e =>
  ⟨I.base.keep b o (I.ok.bs b o e).1 (I.ok.bs b o e).2 (I.ok.nofr e) (I.ok.noex b o e), I.base.free b o (I.ok.bs b o e).1 (I.ok.bs b o e).2 (I.ok.noex b o e)⟩
theorem Inv.bk (I : Inv X pins σ H s) : ∀ b o, X.base.get? b = some o → s.heap.get? b = some o := fun b o e => (I.bs b o e).1
theorem Inv.mod (I : Inv X pins σ H s) : Mod X.K X.mg X.base := I.ok.mod
theorem Inv.kIn (I : Inv X pins σ H s) : X.K.In s.heap := I.ok.mod.kin.keeps I.bk
theorem Inv.lt (I : Inv X pins σ H s) : X.env.locals < s.heap.objs.size := let ⟨_, hn, _⟩ := I.loc; hn.lt
theorem Inv.sz (I : Inv X pins σ H s) : X.s₀.heap.objs.size ≤ s.heap.objs.size := Nat.le_trans I.ok.above (Nat.le_of_lt I.lt)
theorem Inv.nofs (I : Inv X pins σ H s) {a : Addr} (h : s.heap.objs.size ≤ a) : a ∉ X.fs := fun hb => by
  obtain ⟨_, o, ho, _⟩ := I.ok.funs.mem hb
  exact absurd (Nat.lt_of_lt_of_le (Heap.lt_size ho) (Nat.le_trans I.sz h)) (Nat.lt_irrefl _)
theorem Inv.cne (I : Inv X pins σ H s) : ∀ x c, X.env.cells.lookup x = some c → c ≠ X.env.locals := fun x c e z => by
  obtain ⟨v, o, ho, hd⟩ := I.cell x c e
  obtain ⟨m, ⟨o', es, ep, ho', hd', _⟩, _⟩ := I.loc
  rw [z, ho'] at ho; cases ho; rw [hd'] at hd; cases hd
theorem Inv.funs (I : Inv X pins σ H s) : s.heap.FunFrames X.base X.outer := by
  have all : ∀ (l : List Env), (∀ b ∈ frs l, b ∈ X.fs) → X.s₀.heap.FunFrames X.base l → s.heap.FunFrames X.base l := by
    intro l
    induction l with
    | nil => intro _ _; trivial
    | cons env r ih =>
      intro hs hl
      obtain ⟨hk, ⟨L, o, hf, hn, ho, hd⟩, hr⟩ := hl
      have hL : L ∈ X.fs := hs L (by unfold frs; rw [List.filterMap_cons, hf]; exact List.mem_cons_self)
      obtain ⟨sl, e⟩ := I.base.slot L o ho (I.ok.frf L hL) hL fun z => I.ok.exfs L z hL
      exact ⟨hk, ⟨L, _, hf, hn, e, hd⟩, ih (fun b hb => hs b (by unfold frs; rw [List.filterMap_cons, hf]; exact List.mem_cons_of_mem _ hb)) hr⟩
  exact all X.outer (fun _ hb => hb) I.ok.funs
theorem Inv.stack (I : Inv X pins σ H s) : s.heap.FunFrames X.base X.stack := by
  rcases I.ok.stk with e | ⟨e, hf⟩
  · rw [e]; exact I.funs
  · rw [e]
    obtain ⟨m, hn, _⟩ := I.loc
    refine .cons (by rw [I.ok.kind]; decide) hf hn ?_ I.funs
    exact Heap.get?_none_of_le (Nat.le_trans I.ok.bsz I.ok.above)
theorem Inv.stkSub (I : Inv X pins σ H s) : ∀ b ∈ frs X.stack, b ∈ X.env.locals :: X.fs := fun b hb => by
  rcases I.ok.stk with e | ⟨e, hf⟩
  · rw [e] at hb; exact List.mem_cons_of_mem _ hb
  · rw [e] at hb
    unfold frs at hb
    rw [List.filterMap_cons, hf] at hb
    exact hb
theorem Inv.stkFree (I : Inv X pins σ H s) : ∀ b ∈ frs X.stack, H b = none := fun b hb => by
  rcases List.mem_cons.mp (I.stkSub b hb) with e | hb
  · rw [e]; exact I.free
  · obtain ⟨_, o, ho, _⟩ := I.ok.funs.mem hb
    exact I.base.free b o ho (I.ok.frf b hb) fun z => I.ok.exfs b z hb
theorem Inv.step {g' : Array GenState} {t' : Nat} {d' : Drawn} {ch : List Addr} (I : Inv X pins σ H s)
    (hch : ∀ b ∈ ch, (b ∈ X.ex ∨ X.s₀.heap.objs.size ≤ b) ∧ b ≠ X.env.locals ∧ (∀ x c, X.env.cells.lookup x = some c → c ≠ b) ∧ ∀ p ∈ X.pn ++ pins, p.1 ≠ b)
    (keep : ∀ b o, b ≠ X.env.locals → b ∉ X.fs → b ∉ ch → s.heap.get? b = some o → H b = none → h'.get? b = some o)
    (slot : ∀ b o, b ≠ X.env.locals → b ∈ X.fs → b ∉ ch → s.heap.get? b = some o → H b = none → ∃ sl, h'.get? b = some { o with slots := sl }) (free : ∀ b o, b ∉ ch → s.heap.get? b = some o → H b = none → H' b = none)
    (there : ∀ b o, b ∉ ch → s.heap.get? b = some o → ∃ o', h'.get? b = some o')
    (tups : ∀ b xs, H b = some (.tup xs) → H' b = some (.tup xs)) (frzs : ∀ b o u, H b = some (.frz o u) → H' b = some (.frz o u)) (tbls : ∀ b ps, H b = some (.tbl ps) → ∃ more, H' b = some (.tbl (ps ++ more)))
    (ns : ∀ m, s.heap.Ns X.env.locals m → h'.Ns X.env.locals m) (hok : HOk X.prog X.w H' h') (hg : AllBare g') :
    Inv X pins σ H' { s with heap := h', gens := g', drawn := d', toks := t' } := by
  have neL : ∀ b o, X.s₀.heap.get? b = some o → b ≠ X.env.locals := fun b o e => Nat.ne_of_lt (Nat.lt_of_lt_of_le (Heap.lt_size e) I.ok.above)
  have neC : ∀ b o, X.s₀.heap.get? b = some o → b ∉ X.ex → b ∉ ch := fun b o e hx hb => by
    rcases (hch b hb).1 with z | z
    · exact hx z
    · exact absurd (Nat.lt_of_lt_of_le (Heap.lt_size e) z) (Nat.lt_irrefl _)
  have cellK : ∀ x c, X.env.cells.lookup x = some c → ∀ v, s.heap.IsCell c v → h'.IsCell c v := fun x c e v ⟨o, ho, hd⟩ => by
    have nch : c ∉ ch := fun z => (hch c z).2.2.1 x c e rfl
    by_cases hc : c ∈ X.fs
    · obtain ⟨sl, q⟩ := slot c o (I.cne x c e) hc nch ho (I.freeC x c e)
      exact ⟨_, q, hd⟩
    · exact ⟨o, keep c o (I.cne x c e) hc nch ho (I.freeC x c e), hd⟩
  refine ⟨I.ok, I.os, hg, ⟨fun b o e n hb hx => ?_, fun b o e n hb hx => ?_, fun b o e n hx => ?_, fun b o e hx => ?_, fun b xs e => tups b xs (I.base.tups b xs e), fun b o xs e => frzs b o xs (I.base.frzs b o xs e), fun b ps e => ?_⟩, ?_, fun x c e => ?_, ?_, fun x c e => ?_, fun p hp => ?_, hok, I.len⟩
  · exact keep b o (neL b o e) hb (neC b o e hx) (I.base.keep b o e n hb hx) (I.base.free b o e n hx)
  · obtain ⟨sl, e1⟩ := I.base.slot b o e n hb hx
    obtain ⟨sl', e2⟩ := slot b _ (neL b o e) hb (neC b o e hx) e1 (I.base.free b o e n hx)
    exact ⟨sl', e2⟩
  · obtain ⟨o', e1⟩ := I.base.there b o e hx
    exact free b o' (neC b o e hx) e1 (I.base.free b o e n hx)
  · obtain ⟨o', e1⟩ := I.base.there b o e hx
    exact there b o' (neC b o e hx) e1
  · obtain ⟨m1, e1⟩ := I.base.tbls b ps e
    obtain ⟨m2, e2⟩ := tbls b _ e1
    exact ⟨m1 ++ m2, by rw [e2, Array.append_assoc]⟩
  · obtain ⟨m, hn, hl⟩ := I.loc
    refine ⟨m, ns m hn, fun i x v e1 e2 e3 => ?_⟩
    obtain ⟨u, r, l⟩ := hl i x v e1 e2 e3
    refine ⟨u, r, ?_⟩
    rcases l with l | ⟨k, c, e, z⟩
    · exact .inl l
    · exact .inr ⟨k, c, e, cellK x c e _ z⟩
  · obtain ⟨v, z⟩ := I.cell x c e
    exact ⟨v, cellK x c e v z⟩
  · obtain ⟨m, ⟨o, _, _, ho, _⟩, _⟩ := I.loc
    exact free _ o (fun z => (hch _ z).2.1 rfl) ho I.free
  · obtain ⟨v, o, ho, hd⟩ := I.cell x c e
    exact free c o (fun z => (hch c z).2.2.1 x c e rfl) ho (I.freeC x c e)
  · obtain ⟨e, n, ne, nf, d⟩ := I.pin p hp
    have nch : p.1 ∉ ch := fun z => (hch p.1 z).2.2.2 p hp rfl
    exact ⟨keep p.1 p.2 ne nf nch e n, free p.1 p.2 nch e n, ne, nf, d⟩
theorem Inv.un {t' : Nat} (I : Inv X pins σ H s) (u : Un X.fs [] H H' s.heap h') (hok : HOk X.prog X.w H' h') : Inv X pins σ H' { s with heap := h', toks := t' } := by
  obtain ⟨m, ⟨o, es, ep, ho, r⟩, _⟩ := id I.loc
  obtain ⟨sl, hL⟩ := u.any ho I.free (by simp)
  exact I.step (g' := s.gens) (d' := s.drawn) (ch := []) (fun _ z => nomatch z) (fun b o _ hb _ e n => u.keep b o e n hb (by simp)) (fun b o _ hb _ e n => u.slot b o e n hb (by simp)) (fun b o _ e n => u.free b o e n (by simp)) (fun b o _ e => u.there b o e (by simp)) u.tups u.frzs u.tbls (fun m' hm => by
    obtain ⟨o', es', ep', ho', r'⟩ := hm
    rw [ho] at ho'; cases ho'
    exact ⟨_, es', ep', hL, r'⟩) hok I.bare
theorem Inv.call {g' : Array GenState} {t' : Nat} {d' : Drawn} {ch : List Addr} (I : Inv X pins σ H s) (u : Un (frs X.stack) ch H H' s.heap h') (hok : HOk X.prog X.w H' h') (hg : AllBare g')
    (hch : ∀ b ∈ ch, (b ∈ X.ex ∨ X.s₀.heap.objs.size ≤ b) ∧ b ≠ X.env.locals ∧ (∀ x c, X.env.cells.lookup x = some c → c ≠ b) ∧ ∀ p ∈ X.pn ++ pins, p.1 ≠ b) :
    Inv X pins σ H' { s with heap := h', gens := g', drawn := d', toks := t' } := by
  obtain ⟨m, ⟨o, es, ep, ho, r⟩, _⟩ := id I.loc
  obtain ⟨sl, hL⟩ := u.any ho I.free fun z => (hch _ z).2.1 rfl
  exact I.step (ch := ch) hch (fun b o hL hb hc e n => u.keep b o e n (fun z => (List.mem_cons.mp (I.stkSub b z)).elim hL hb) hc) (fun b o _ _ hc e n => u.any e n hc) (fun b o hc e n => u.free b o e n hc) (fun b o hc e => u.there b o e hc) u.tups u.frzs u.tbls (fun m' hm => by
    obtain ⟨o', es', ep', ho', r'⟩ := hm
    rw [ho] at ho'; cases ho'
    exact ⟨_, es', ep', hL, r'⟩) hok hg
theorem Inv.turned {t' : Nat} {it : Addr} (I : Inv X pins σ H s) (k : ∀ b o, b ≠ it → s.heap.get? b = some o → h'.get? b = some o) (hn : H it = none) (hL : it ≠ X.env.locals)
    (h1 : it ∈ X.ex ∨ X.s₀.heap.objs.size ≤ it) (h2 : ∀ x c, X.env.cells.lookup x = some c → c ≠ it) (h3 : ∀ p ∈ X.pn ++ pins, p.1 ≠ it) : Inv X pins σ H { s with heap := h', toks := t' } := by
  have nit : ∀ b u, H b = some u → b ≠ it := fun b u e z => by rw [z, hn] at e; cases e
  refine I.step (g' := s.gens) (d' := s.drawn) (ch := [it]) (fun b hb => ?_) (fun b o _ _ hc e _ => k b o (fun z => hc (by simp [z])) e) (fun b o _ _ hc e _ => ⟨o.slots, k b o (fun z => hc (by simp [z])) e⟩) (fun _ _ _ _ n => n)
    (fun b o hc e => ⟨o, k b o (fun z => hc (by simp [z])) e⟩) (fun _ _ e => e) (fun _ _ _ e => e) (fun b ps e => ⟨#[], by rw [e]; simp⟩) (fun m hm => ?_) (fun b u e => ?_) I.bare
  · have e : b = it := by simpa using hb
    subst e
    exact ⟨h1, hL, h2, h3⟩
  · obtain ⟨o, es, ep, ho, r⟩ := hm
    exact ⟨o, es, ep, k _ o (Ne.symm hL) ho, r⟩
  · refine (I.hok b u e).stay (fun c v hc q => k c v ?_ q) (fun _ q => q) fun _ _ q => q
    rcases hc with z | z
    · rw [z]; exact nit b u e
    · exact nit c _ z
theorem Inv.tok (I : Inv X pins σ H s) (t : Nat) : Inv X pins σ H { s with toks := t } := I.un (h' := s.heap) (t' := t) Un.refl I.hok
theorem Inv.kept {t' : Nat} (I : Inv X pins σ H s) (k : ∀ b u, s.heap.get? b = some u → h'.get? b = some u) : Inv X pins σ H { s with heap := h', toks := t' } := I.un (Un.kept k) (I.hok.kept k)
theorem Inv.laid {a : Addr} {o : HO} {t' : Nat} (I : Inv X pins σ H s) (k : ∀ b u, s.heap.get? b = some u → h'.get? b = some u) (hp : s.heap.objs.size ≤ a) (new : ObjOk X.prog X.w (upd H a o) h' a o) :
    Inv X pins σ (upd H a o) { s with heap := h', toks := t' } := I.un (Un.laid k hp (I.hok.fresh hp)) (I.hok.laid k hp new)
theorem Inv.write {x e : Addr} {o : HO} {t' : Nat} (I : Inv X pins σ H s) (mu : Mut (H x)) (he : e = x ∨ H e = some (.own x)) (k : ∀ b u, b ≠ e → s.heap.get? b = some u → h'.get? b = some u) (heo : ∃ u, h'.get? e = some u)
    (new : ObjOk X.prog X.w (upd H x o) h' x o) : Inv X pins σ (upd H x o) { s with heap := h', toks := t' } := I.un (Un.write mu he k heo) (I.hok.write mu he k heo new)
theorem Inv.pins_of {pins' : List (Addr × Obj)} (I : Inv X pins σ H s) (h : ∀ p ∈ pins', s.heap.get? p.1 = some p.2 ∧ H p.1 = none ∧ p.1 ≠ X.env.locals ∧ p.1 ∉ X.fs ∧ ∀ v, p.2.data ≠ .cell v) : Inv X pins' σ H s :=
  ⟨I.ok, I.os, I.bare, I.base, I.loc, I.cell, I.free, I.freeC, fun p hp => (List.mem_append.mp hp).elim (fun z => I.pin p (List.mem_append_left _ z)) (h p), I.hok, I.len⟩
theorem nodup_ix {N : List Str} (hN : N.Nodup) {i j : Nat} {x : Str} (a : N[i]? = some x) (b : N[j]? = some x) : i = j := by
  obtain ⟨h1, e1⟩ := List.getElem?_eq_some_iff.mp a
  obtain ⟨h2, e2⟩ := List.getElem?_eq_some_iff.mp b
  exact (List.getElem_inj hN).mp (e1.trans e2.symm)
theorem store_ok2 {M : Model} {A : Around} {E : Value → Shared → Prop} {i : Nat} {x : Str} {v : V} {u : Value} {Q : Unit → Shared → Prop} (I : Inv X pins σ H s) (hN : X.N.Nodup) (hi : X.N[i]? = some x) (hx : Loc X.env.scope x) (r : RelV v u)
    (h : ∀ s', Inv X pins (σ.set i (some v)) H s' → (∃ a, Heap.SameBut a s.heap s'.heap ∧ (a = X.env.locals ∨ X.env.cells.lookup x = some a)) → Q () s') (hf : X.fn x = true ∨ X.env.scope.names.lookup x = some .local := by first | exact .inl rfl | exact .inr rfl | assumption) : wpAny M A (storeName X.env x u) Q E s := by
  obtain ⟨m, hn, hl⟩ := id I.loc
  have hcls : (X.env.scope.kind == .class || (X.env.scope.kind == .module && X.env.locals != X.env.globals)) = false := by rw [I.ok.kind]; rfl
  have hiσ : i < σ.length := by rw [I.len]; exact (List.getElem?_eq_some_iff.mp hi).1
  have cne := I.cne
  have tracked : ∀ {a : Addr} {h' : Heap}, (∃ o, s.heap.get? a = some o ∧ H a = none) → Heap.SameBut a s.heap h' → HOk X.prog X.w H h' := fun {a h'} ha hs b ob e => by
    obtain ⟨_, _, hfree⟩ := ha
    refine (I.hok b ob e).stay (fun c w' hc q => (hs.2 c ?_).trans q) (fun _ q => q) fun _ _ q => q
    rintro rfl
    rcases hc with rfl | hc
    · rw [hfree] at e; cases e
    · rw [hfree] at hc; cases hc
  rcases hx with hk | hk
  · refine wpAny_storeName_local hk hn (fun h' hn' hs => ?_) hcls
    obtain ⟨oL, _, _, hoL, _⟩ := id hn
    refine h _ ⟨I.ok, I.os, I.bare, ⟨fun b o e n hb hx => ?_, fun b o e n hb hx => ?_, I.base.free, fun b o e hx => ?_, I.base.tups, I.base.frzs, I.base.tbls⟩, ⟨_, hn', fun j y v' e1 e2 e3 => ?_⟩, fun y c e => ?_, I.free, I.freeC, fun p hp => ?_, tracked ⟨oL, hoL, I.free⟩ hs, by simpa using I.len⟩ ⟨_, hs, .inl rfl⟩
    · exact (hs.2 b (Nat.ne_of_lt (Nat.lt_of_lt_of_le (Heap.lt_size e) I.ok.above))).trans (I.base.keep b o e n hb hx)
    · obtain ⟨sl, e1⟩ := I.base.slot b o e n hb hx
      exact ⟨sl, (hs.2 b (Nat.ne_of_lt (Nat.lt_of_lt_of_le (Heap.lt_size e) I.ok.above))).trans e1⟩
    · obtain ⟨o', e1⟩ := I.base.there b o e hx
      exact ⟨o', (hs.2 b (Nat.ne_of_lt (Nat.lt_of_lt_of_le (Heap.lt_size e) I.ok.above))).trans e1⟩
    · by_cases hj : j = i
      · subst hj
        rw [hi] at e1; cases e1
        rw [List.getElem?_set_self hiσ] at e2
        cases e2
        exact ⟨u, r, .inl ⟨hk, by simp⟩⟩
      · rw [List.getElem?_set_ne (Ne.symm hj)] at e2
        obtain ⟨u', r', q⟩ := hl j y v' e1 e2 e3
        refine ⟨u', r', ?_⟩
        rcases q with ⟨k, e⟩ | ⟨k, c, e, z⟩
        · refine .inl ⟨k, ?_⟩
          have : y ≠ x := fun e => hj (nodup_ix hN e1 (e ▸ hi))
          simp [this, e]
        · exact .inr ⟨k, c, e, z.sameBut hs (cne y c e)⟩
    · obtain ⟨w', z⟩ := I.cell y c e
      exact ⟨w', z.sameBut hs (cne y c e)⟩
    · obtain ⟨e, n, ne, nf, d⟩ := I.pin p hp
      exact ⟨(hs.2 p.1 ne).trans e, n, ne, nf, d⟩
  · have hfn : X.fn x = true := by
      rcases hf with z | z
      · exact z
      · rw [z] at hk; cases hk
    obtain ⟨c, hc⟩ := I.ok.has x (.inl hk)
    obtain ⟨w', z⟩ := I.cell x c hc
    refine wpAny_storeName_cell I.ok.kind hk hc z (fun h' hc' hs => ?_)
    obtain ⟨oc, hoc, hocd⟩ := id z
    refine h { s with heap := h' } ⟨I.ok, I.os, I.bare, ⟨fun b o e n hb hx => ?_, fun b o e n hb hx => ?_, I.base.free, fun b o e hx => ?_, I.base.tups, I.base.frzs, I.base.tbls⟩, ⟨m, hn.sameBut hs (Ne.symm (cne x c hc)), fun j y v' e1 e2 e3 => ?_⟩, fun y c' e => ?_, I.free, I.freeC, fun p hp => ?_, tracked ⟨oc, hoc, I.freeC x c hc⟩ hs, by simpa using I.len⟩ ⟨c, hs, .inr hc⟩
    · exact (hs.2 b (Nat.ne_of_lt (Nat.lt_of_lt_of_le (Heap.lt_size e) (I.ok.cab x c hfn hc)))).trans (I.base.keep b o e n hb hx)
    · obtain ⟨sl, e1⟩ := I.base.slot b o e n hb hx
      exact ⟨sl, (hs.2 b (Nat.ne_of_lt (Nat.lt_of_lt_of_le (Heap.lt_size e) (I.ok.cab x c hfn hc)))).trans e1⟩
    · obtain ⟨o', e1⟩ := I.base.there b o e hx
      exact ⟨o', (hs.2 b (Nat.ne_of_lt (Nat.lt_of_lt_of_le (Heap.lt_size e) (I.ok.cab x c hfn hc)))).trans e1⟩
    · by_cases hj : j = i
      · subst hj
        rw [hi] at e1; cases e1
        rw [List.getElem?_set_self hiσ] at e2
        cases e2
        exact ⟨u, r, .inr ⟨.inl hk, c, hc, hc'⟩⟩
      · rw [List.getElem?_set_ne (Ne.symm hj)] at e2
        obtain ⟨u', r', q⟩ := hl j y v' e1 e2 e3
        refine ⟨u', r', ?_⟩
        rcases q with q | ⟨k, c', e, z'⟩
        · exact .inl q
        · refine .inr ⟨k, c', e, z'.sameBut hs ?_⟩
          rintro rfl
          exact hj (nodup_ix hN e1 (I.ok.inj _ _ _ e hc ▸ hi))
    · by_cases hcc : c' = c
      · subst hcc; exact ⟨_, hc'⟩
      · obtain ⟨w2, z2⟩ := I.cell y c' e
        exact ⟨w2, z2.sameBut hs hcc⟩
    · obtain ⟨e, n, ne, nf, d⟩ := I.pin p hp
      refine ⟨(hs.2 p.1 ?_).trans e, n, ne, nf, d⟩
      intro q
      rw [q, hoc] at e
      have q' : oc = p.2 := Option.some.inj e
      exact d w' (by rw [← q']; exact hocd)
theorem store_ok {M : Model} {A : Around} {E : Value → Shared → Prop} {i : Nat} {x : Str} {v : V} {u : Value} {Q : Unit → Shared → Prop} (I : Inv X pins σ H s) (hN : X.N.Nodup) (hi : X.N[i]? = some x) (hx : Loc X.env.scope x) (r : RelV v u)
    (h : ∀ s', Inv X pins (σ.set i (some v)) H s' → Q () s') (hf : X.fn x = true ∨ X.env.scope.names.lookup x = some .local := by first | exact .inl rfl | exact .inr rfl | assumption) : wpAny M A (storeName X.env x u) Q E s :=
  store_ok2 I hN hi hx r (fun s' I' _ => h s' I') hf
theorem Inv.call' {s' : Shared} {ch : List Addr} (I : Inv X pins σ H s) (ho : s'.os = s.os) (u : Un (frs X.stack) ch H H' s.heap s'.heap) (hok : HOk X.prog X.w H' s'.heap) (hg : AllBare s'.gens)
    (hch : ∀ b ∈ ch, (b ∈ X.ex ∨ X.s₀.heap.objs.size ≤ b) ∧ b ≠ X.env.locals ∧ (∀ x c, X.env.cells.lookup x = some c → c ≠ b) ∧ ∀ p ∈ X.pn ++ pins, p.1 ≠ b) : Inv X pins σ H' s' := by
  obtain ⟨h', g', d', t', o'⟩ := s'
  have e : o' = s.os := ho
  subst e
  exact I.call (g' := g') (t' := t') (d' := d') u hok hg hch
end
noncomputable abbrev XK := Value → Option Addr → Hp → Prop
noncomputable abbrev St := List (Option V)
noncomputable abbrev VK := V → Hp → Prop
noncomputable abbrev TE := St → Hp → VK → Prop
noncomputable abbrev TT := St → Hp → (Bool → Hp → Prop) → Prop
noncomputable abbrev TA := St → Hp → (List V → Hp → Prop) → Prop
structure Ends where
  nx : St → Hp → Prop
  rt : VK
  bk : St → Hp → Prop := fun _ _ => False
  ct : St → Hp → Prop := fun _ _ => False
noncomputable abbrev TS := Ends → St → Hp → Prop
noncomputable def EP (X : Cx) (pins : List (Addr × Obj)) (σ : St) (Q : VK) (u : Value) (s' : Shared) : Prop := ∃ v H', Inv X pins σ H' s' ∧ RelV v u ∧ Q v H'
noncomputable def TP (X : Cx) (pins : List (Addr × Obj)) (σ : St) (Q : Bool → Hp → Prop) (b : Bool) (s' : Shared) : Prop := ∃ H', Inv X pins σ H' s' ∧ Q b H'
noncomputable def AP (X : Cx) (pins : List (Addr × Obj)) (σ : St) (Q : List V → Hp → Prop) (us : List Value) (s' : Shared) : Prop := ∃ vs H', Inv X pins σ H' s' ∧ Vals vs us ∧ Q vs H'
noncomputable def SP (X : Cx) (pins : List (Addr × Obj)) (D : Ends) (f : Flow) (s' : Shared) : Prop :=
  match f with
  | .next => ∃ σ' H', Inv X pins σ' H' s' ∧ D.nx σ' H'
  | .brk => ∃ σ' H', Inv X pins σ' H' s' ∧ D.bk σ' H'
  | .cont => ∃ σ' H', Inv X pins σ' H' s' ∧ D.ct σ' H'
  | .ret u => ∃ v σ' H', Inv X pins σ' H' s' ∧ RelV v u ∧ D.rt v H'
noncomputable def PE (X : Cx) (e : Expr) (t : TE) : Prop :=
  ∀ (pins : List (Addr × Obj)) (s : Shared) (σ : St) (H : Hp) (Q : VK), Inv X pins σ H s → t σ H Q → wpAny (model X.prog X.w) X.A (eval e X.env) (EP X pins σ Q) X.xe s
noncomputable def PT (X : Cx) (e : Expr) (t : TT) : Prop :=
  ∀ (pins : List (Addr × Obj)) (s : Shared) (σ : St) (H : Hp) (Q : Bool → Hp → Prop), Inv X pins σ H s → t σ H Q → wpAny (model X.prog X.w) X.A (isTrue e X.env (eval e X.env)) (TP X pins σ Q) X.xe s
noncomputable def PW (X : Cx) (e : Expr) (t : TT) : Prop :=
  ∀ (whole : Sem Value) (pins : List (Addr × Obj)) (s : Shared) (σ : St) (H : Hp) (Q : Bool → Hp → Prop), Inv X pins σ H s → t σ H Q → wpAny (model X.prog X.w) X.A (isTrue e X.env whole) (TP X pins σ Q) X.xe s
theorem PW.pt {X : Cx} {e : Expr} {t : TT} (h : PW X e t) : PT X e t := h _
noncomputable def PA (X : Cx) (es : List Expr) (t : TA) : Prop :=
  ∀ (pos : Pos) (pins : List (Addr × Obj)) (s : Shared) (σ : St) (H : Hp) (Q : List V → Hp → Prop), Inv X pins σ H s → t σ H Q → wpAny (model X.prog X.w) X.A (spliced (backTo pos (starEach es X.env))) (AP X pins σ Q) X.xe s
noncomputable def PS (X : Cx) (st : Stmt) (t : TS) : Prop :=
  ∀ (pins : List (Addr × Obj)) (s : Shared) (σ : St) (H : Hp) (D : Ends), Inv X pins σ H s → t D σ H → wpAny (model X.prog X.w) X.A (exec st X.env) (SP X pins D) X.xe s
noncomputable def PSs (X : Cx) (st : List Stmt) (t : TS) : Prop :=
  ∀ (pins : List (Addr × Obj)) (s : Shared) (σ : St) (H : Hp) (D : Ends), Inv X pins σ H s → t D σ H → wpAny (model X.prog X.w) X.A (execs st X.env) (SP X pins D) X.xe s
theorem thn {α : Type} {t : Sem α} {Q Q' : α → Shared → Prop} {M : Model} {A : Around} {E : Value → Shared → Prop} {s : Shared} (h : wpAny M A t Q E s) (hQ : ∀ a s, Q a s → Q' a s) : wpAny M A t Q' E s := wpAny_mono h hQ fun _ _ x => x
end L2
namespace L2
open PySem PySem.Spec PyProof.Rows
section
variable {X : Cx}
noncomputable def tVar (i : Nat) : TE := fun σ H Q => ∃ v, σ[i]? = some (some v) ∧ Q v H
noncomputable def tC (v : V) : TE := fun _ H Q => Q v H
theorem pe_var {i : Nat} {x : Str} {pos : Pos} (hN : X.N[i]? = some x) (hv : Vis X.env.scope x) (hd : (x == ("__debug__" : Str)) = false := by decide) (hcd : (x == ("__classdict__" : Str)) = false := by decide) : PE X (.Name x pos) (tVar i) := by
  intro pins s σ H Q I h
  obtain ⟨v, e, h⟩ := h
  obtain ⟨m, hn, hl⟩ := I.loc
  obtain ⟨u, r, l⟩ := hl i x v hN e hv
  have fin : EP X pins σ Q u s := ⟨v, H, I, r, h⟩
  rcases l with ⟨hk, hm⟩ | ⟨hk, c, hc, hcell⟩
  · exact wpAny_Name (wpAny_loadName_local I.ok.kind hk hn hm fin) hd
  · rcases hk with hk | hk
    · exact wpAny_Name (wpAny_loadName_cell I.ok.kind hk hc hcell fin) hd
    · exact wpAny_Name (wpAny_loadName_free I.ok.kind hk hc hcell fin hcd) hd
theorem pe_int {i j pos} : PE X (.Constant (.int i) j pos) (tC (.int i)) := fun _ _ _ H _ I h => wpAny_Constant_int ⟨.int i, H, I.tok _, ⟨_, rfl⟩, h⟩
theorem pe_bl {b j pos} : PE X (.Constant (.bool b) j pos) (tC (.bl b)) := fun _ _ _ H _ I h => Constant_bool ⟨.bl b, H, I, rfl, h⟩
theorem pe_non {j pos} : PE X (.Constant .none j pos) (tC .non) := fun _ _ _ H _ I h => Constant_none ⟨.non, H, I, rfl, h⟩
theorem pe_str {x j pos} : PE X (.Constant (.str x) j pos) (tC (.str x)) := fun _ _ _ H _ I h => Calls.Constant_str ⟨.str x, H, I.tok _, ⟨_, rfl⟩, h⟩
noncomputable def Gl (X : Cx) (x : Str) : Prop := X.env.kindOf x = some .globalImplicit
theorem ld_glob {E : Value → Shared → Prop} {pins : List (Addr × Obj)} {s : Shared} {σ : St} {H : Hp} {x : Str} {u : Value} {pos : Pos} {Q : Value → Shared → Prop} (I : Inv X pins σ H s) (hg : Gl X x) (hm : X.mg x = some u) (h : Q u s)
    (hd : (x == ("__debug__" : Str)) = false := by decide) : wpAny (model X.prog X.w) X.A (eval (.Name x pos) X.env) Q E s :=
  Calls.Name_function_global I.ok.kind hg (Calls.loadGlobal_global (by rw [I.ok.glob]; exact I.mod.glob.keeps I.bk) hm h) hd
theorem ld_blt {E : Value → Shared → Prop} {pins : List (Addr × Obj)} {s : Shared} {σ : St} {H : Hp} {x : Str} {u : Value} {pos : Pos} {Q : Value → Shared → Prop} (I : Inv X pins σ H s) (hg : Gl X x) (hm : X.mg x = none) (hv : bootBuiltins x = some u) (h : Q u s)
    (hn : x ≠ "__name__" := by decide) (hd : (x == ("__debug__" : Str)) = false := by decide) : wpAny (model X.prog X.w) X.A (eval (.Name x pos) X.env) Q E s := by
  obtain ⟨mb, h1, h2⟩ := I.mod.blt
  exact Calls.Name_function_global I.ok.kind hg (Calls.loadGlobal_builtin (by rw [I.ok.glob]; exact I.mod.glob.keeps I.bk) hm (by rw [I.ok.blt]; exact h1.keeps I.bk) ((h2 x hn).trans hv) h) hd
theorem pe_glob {x : Str} {v : V} {u : Value} {pos : Pos} (hg : Gl X x) (hm : X.mg x = some u) (r : RelV v u) (hd : (x == ("__debug__" : Str)) = false := by decide) : PE X (.Name x pos) (tC v) :=
  fun _ _ _ H _ I h => ld_glob I hg hm ⟨v, H, I, r, h⟩ hd
theorem pe_bltn {x : Str} {v : V} {u : Value} {pos : Pos} (hg : Gl X x) (hm : X.mg x = none) (hv : bootBuiltins x = some u) (r : RelV v u) (hn : x ≠ "__name__" := by decide) (hd : (x == ("__debug__" : Str)) = false := by decide) : PE X (.Name x pos) (tC v) :=
  fun _ _ _ H _ I h => ld_blt I hg hm hv ⟨v, H, I, r, h⟩ hn hd
variable {a b : Expr} {ta tb : TE} {pos : Pos}
noncomputable def PC (X : Cx) (op : CmpOp) (a b : Expr) (t : TE) : Prop :=
  ∀ (pins : List (Addr × Obj)) (s : Shared) (σ : St) (H : Hp) (Q : VK), Inv X pins σ H s → t σ H Q →
    wpAny (model X.prog X.w) X.A (eval a X.env) (fun v s₁ => wpAny (model X.prog X.w) X.A (eval b X.env) (fun u s₂ => wpAny (model X.prog X.w) X.A (compareOp op v u) (EP X pins σ Q) X.xe s₂) X.xe s₁) X.xe s
noncomputable def tB (t : TE) : TT := fun σ H Q => t σ H fun x H1 => ∃ c, x = .bl c ∧ Q c H1
theorem pe_cmp {op : CmpOp} {t : TE} (h : PC X op a b t) (h1 : behindInMarks op b = false := by first | exact nobehind _ (by decide) (by decide) | rfl) : PE X (.Compare a [op] [b] pos) t := fun pins s σ H Q I hw => wpAny_Compare1 (h pins s σ H Q I hw) h1
theorem pt_cmp {op : CmpOp} {t : TE} (h : PC X op a b t) (h1 : behindInMarks op b = false := by first | exact nobehind _ (by decide) (by decide) | rfl) : PT X (.Compare a [op] [b] pos) (tB t) := by
  intro pins s σ H Q I hw
  refine wpAny_isTrue_Compare1 (thn (h pins s σ H _ I hw) fun v s1 h1 => thn h1 fun u s2 h2 => thn h2 fun c s3 hz1 => ?_) h1
  obtain ⟨x, H1, I1, r1, q1⟩ := hz1
  obtain ⟨d, rfl, q⟩ := q1
  cases r1
  exact wpAny_truthy_bool ⟨H1, I1, q⟩
theorem pt_val {e : Expr} {t : TE} (h : PE X e t) (he : ∀ whole, isTrue e X.env whole = (do let v ← whole; standAt e.pos; holding [v] (truthy v)) := by intro _; rfl) : PT X e (tB t) := by
  intro pins s σ H Q I hw
  refine isTrue_plain (thn (h pins s σ H _ I hw) fun v s1 hz2 => ?_) (he _)
  obtain ⟨x, H1, I1, r1, q1⟩ := hz2
  obtain ⟨d, rfl, q⟩ := q1
  cases r1
  exact wpAny_truthy_bool ⟨H1, I1, q⟩
variable {tA tB' : TT} {rest : List Expr}
noncomputable def tOr (t u : TT) : TT := fun σ H Q => t σ H fun c H1 => if c = true then Q true H1 else u σ H1 Q
noncomputable def tNot (t : TT) : TT := fun σ H Q => t σ H fun c H1 => Q (!c) H1
theorem pw_or1 (ha : PT X a tA) : PW X (.BoolOp .Or [a] pos) tA := by
  intro wh pins s σ H Q I h
  refine isTrue_or (thn (ha pins s σ H Q I h) fun c s1 e => ?_)
  cases c with
  | false => exact isTrue_or_nil e
  | true => exact e
theorem pw_or (ha : PT X a tA) (hb : PW X (.BoolOp .Or (b :: rest) pos) tB') : PW X (.BoolOp .Or (a :: b :: rest) pos) (tOr tA tB') := by
  intro wh pins s σ H Q I h
  refine isTrue_or (thn (ha pins s σ H _ I h) fun c s1 hz3 => ?_)
  obtain ⟨H1, I1, q1⟩ := hz3
  cases c with
  | true => exact ⟨H1, I1, q1⟩
  | false => exact hb wh pins s1 σ H1 Q I1 q1
theorem pt_not (ha : PT X a tA) : PT X (.UnaryOp .Not a pos) (tNot tA) := by
  intro pins s σ H Q I h
  exact isTrue_not (ha pins s σ H (fun c H1 => Q (!c) H1) I h)
noncomputable def tAndV (ta tb : TE) : TE := fun σ H Q => ta σ H fun x H1 => ∃ c, x = .bl c ∧ if c = true then tb σ H1 Q else Q (.bl false) H1
noncomputable def tOrV (ta tb : TE) : TE := fun σ H Q => ta σ H fun x H1 => ∃ c, x = .bl c ∧ if c = true then Q (.bl true) H1 else tb σ H1 Q
theorem pe_one {op} {t : TE} (h : PE X a t) : PE X (.BoolOp op [a] pos) t := fun pins s σ H Q I hw => BoolOp_one (h pins s σ H Q I hw)
theorem pe_and (ha : PE X a ta) (hb : PE X (.BoolOp .And (b :: rest) pos) tb) : PE X (.BoolOp .And (a :: b :: rest) pos) (tAndV ta tb) := by
  intro pins s σ H Q I h
  refine BoolOp_and (thn (ha pins s σ H _ I h) fun v s1 hz4 => ?_)
  obtain ⟨x, H1, I1, r1, q1⟩ := hz4
  obtain ⟨c, rfl, q1⟩ := q1
  cases r1
  refine wpAny_truthy_bool ?_
  cases c with
  | true => exact hb pins s1 σ H1 Q I1 q1
  | false => exact ⟨.bl false, H1, I1, rfl, q1⟩
theorem pe_or (ha : PE X a ta) (hb : PE X (.BoolOp .Or (b :: rest) pos) tb) : PE X (.BoolOp .Or (a :: b :: rest) pos) (tOrV ta tb) := by
  intro pins s σ H Q I h
  refine BoolOp_or (thn (ha pins s σ H _ I h) fun v s1 hz5 => ?_)
  obtain ⟨x, H1, I1, r1, q1⟩ := hz5
  obtain ⟨c, rfl, q1⟩ := q1
  cases r1
  refine wpAny_truthy_bool ?_
  cases c with
  | false => exact hb pins s1 σ H1 Q I1 q1
  | true => exact ⟨.bl true, H1, I1, rfl, q1⟩
end
end L2
namespace L2
open PySem PySem.Spec PyProof.Rows
noncomputable def SqL (K : PySem.W.Frag) (H : Hp) (a : Addr) (xs : List V) : Prop :=
  Rd H a (.lst xs) ∨
    ∃ (o : Obj) (its : Array Value) (n : Nat), K.lookup a = some o ∧ o.cls = .type "list" ∧ o.dict = none ∧ o.data = .seq its n ∧ its.size ≤ sizeLine ∧ Vals xs its.toList
noncomputable def SqT (K : PySem.W.Frag) (H : Hp) (a : Addr) (xs : List V) : Prop :=
  Rd H a (.tup xs) ∨
    ∃ (o : Obj) (its : Array Value) (n : Nat), K.lookup a = some o ∧ o.cls = .type "tuple" ∧ o.data = .seq its n ∧ its.size ≤ sizeLine ∧ Vals xs its.toList
noncomputable def absV : Value → Option V
  | .none => some .non
  | .bool b => some (.bl b)
  | .int i _ => some (.int i)
  | .str x _ => some (.str x)
  | .bytes b _ => some (.byt b)
  | .float b _ => some (.flt b)
  | .ref a => some (.ref a)
  | .type n => some (.ty n)
  | _ => none
theorem RelV.abs {x : V} {u : Value} (r : RelV x u) : absV u = some x := by
  cases x with
  | non => cases r; rfl
  | bl _ => cases r; rfl
  | int _ => obtain ⟨t, rfl⟩ := r; rfl
  | str _ => obtain ⟨t, rfl⟩ := r; rfl
  | byt _ => obtain ⟨t, rfl⟩ := r; rfl
  | flt _ => obtain ⟨t, rfl⟩ := r; rfl
  | ref _ => cases r; rfl
  | ty _ => cases r; rfl
theorem RelV.inj {x y : V} {u : Value} (r : RelV x u) (q : RelV y u) : x = y := Option.some.inj (r.abs.symm.trans q.abs)
theorem Vals.inj : ∀ {xs ys : List V} {us : List Value}, Vals xs us → Vals ys us → xs = ys
  | _, _, _, .nil, .nil => rfl
  | _, _, _, .cons r t, .cons r' t' => by rw [r.inj r', Vals.inj t t']
section
variable {X : Cx} {pins : List (Addr × Obj)} {σ : St} {H : Hp} {s : Shared} {a : Addr} {xs ys : List V}
theorem SqL.of {K : PySem.W.Frag} (h : H a = some (.lst xs)) : SqL K H a xs := .inl (.inl h)
theorem SqT.of {K : PySem.W.Frag} (h : H a = some (.tup xs)) : SqT K H a xs := .inl (.inl h)
theorem Inv.list (I : Inv X pins σ H s) (h : SqL X.K H a xs) : ∃ its : List Value, Vals xs its ∧ PlainL s.heap a its.toArray ∧ xs.length ≤ sizeLine := by
  rcases h with h | ⟨o, its, n, hk, hc, hd, hs, hz, r⟩
  · obtain ⟨z, its, n, r, e⟩ := h.ok I.hok
    exact ⟨its, r, ⟨_, n, e, rfl, rfl, rfl⟩, z⟩
  · refine ⟨its.toList, r, ⟨o, n, I.kIn a o hk, hc, hd, by simpa using hs⟩, ?_⟩
    have e := r.length
    simp only [Array.length_toList] at e
    omega
theorem Inv.tuple (I : Inv X pins σ H s) (h : SqT X.K H a xs) : ∃ its : List Value, Vals xs its ∧ IsTup s.heap a its.toArray ∧ xs.length ≤ sizeLine := by
  rcases h with h | ⟨o, its, n, hk, hc, hs, hz, r⟩
  · obtain ⟨z, its, r, p⟩ := h.ok I.hok
    exact ⟨its, r, p, z⟩
  · refine ⟨its.toList, r, ⟨o, I.kIn a o hk, hc, n, by simpa using hs⟩, ?_⟩
    have e := r.length
    simp only [Array.length_toList] at e
    omega
theorem Inv.list_inj (I : Inv X pins σ H s) (h : SqL X.K H a xs) (h' : SqL X.K H a ys) : xs = ys := by
  obtain ⟨its, r, ⟨o, n, e, _, _, d⟩, _⟩ := I.list h
  obtain ⟨its', r', ⟨o', n', e', _, _, d'⟩, _⟩ := I.list h'
  rw [e] at e'; cases e'
  rw [d] at d'
  injection d' with d1 _
  have : its = its' := by simpa using congrArg Array.toList d1
  subst this
  exact r.inj r'
end
noncomputable abbrev Cx.wish (X : Cx) (E : Value → Shared → Prop) : Cx := { X with xe := E }
noncomputable abbrev Cx.nox (X : Cx) : Cx := X.wish fun _ _ => False
theorem Cx.Ok.wish {X : Cx} (ok : X.Ok) (E : Value → Shared → Prop) : (X.wish E).Ok :=
  ⟨ok.mod, ok.kind, ok.glob, ok.blt, ok.above, ok.inj, ok.has, ok.cab, ok.hd, ok.frames, ok.stk, ok.exf, ok.bs, ok.bsz, ok.noex, ok.exfs, ok.funs, ok.frf⟩
theorem Cx.Ok.unwish {X : Cx} {E : Value → Shared → Prop} (ok : (X.wish E).Ok) : X.Ok :=
  ⟨ok.mod, ok.kind, ok.glob, ok.blt, ok.above, ok.inj, ok.has, ok.cab, ok.hd, ok.frames, ok.stk, ok.exf, ok.bs, ok.bsz, ok.noex, ok.exfs, ok.funs, ok.frf⟩
section
variable {X : Cx} {pins : List (Addr × Obj)} {σ : St} {H : Hp} {s : Shared} {E : Value → Shared → Prop}
theorem Inv.wish (I : Inv X pins σ H s) (E : Value → Shared → Prop) : Inv (X.wish E) pins σ H s := ⟨I.ok.wish E, I.os, I.bare, I.base, I.loc, I.cell, I.free, I.freeC, I.pin, I.hok, I.len⟩
theorem Inv.unwish (I : Inv (X.wish E) pins σ H s) : Inv X pins σ H s := ⟨I.ok.unwish, I.os, I.bare, I.base, I.loc, I.cell, I.free, I.freeC, I.pin, I.hok, I.len⟩
theorem SP.unwish {D : Ends} {f : Flow} {s' : Shared} (h : SP (X.wish E) pins D f s') : SP X pins D f s' := by
  cases f with
  | next => obtain ⟨σ', H', I, q⟩ := h; exact ⟨σ', H', I.unwish, q⟩
  | brk => obtain ⟨σ', H', I, q⟩ := h; exact ⟨σ', H', I.unwish, q⟩
  | cont => obtain ⟨σ', H', I, q⟩ := h; exact ⟨σ', H', I.unwish, q⟩
  | ret u => obtain ⟨v, σ', H', I, r, q⟩ := h; exact ⟨v, σ', H', I.unwish, r, q⟩
theorem PSs.nox {st : List Stmt} {t : TS} (h : PSs X.nox st t) : PSs X st t := fun pins s σ H D I hw =>
  wpAny_mono (h pins s σ H D (I.wish _) hw) (fun _ _ q => q.unwish) fun _ _ z => False.elim z
end
section
variable {X : Cx} {st : Stmt} {rest : List Stmt} {t u : TS} {e : Expr} {te : TE} {pos : Pos}
noncomputable def tNext : TS := fun D σ H => D.nx σ H
noncomputable def tSeq (t u : TS) : TS := fun D σ H => t { D with nx := u D } σ H
theorem pss_nil : PSs X [] tNext := fun _ _ σ H _ I h => wpAny_execs_nil ⟨σ, H, I, h⟩
theorem pss_cons (h1 : PS X st t) (h2 : PSs X rest u) : PSs X (st :: rest) (tSeq t u) := by
  intro pins s σ H D I h
  refine wpAny_execs_cons (thn (h1 pins s σ H { D with nx := u D } I h) fun f s1 q => ?_)
  cases f with
  | next =>
    obtain ⟨σ', H', I', q⟩ := q
    exact h2 pins s1 σ' H' D I' q
  | ret v => exact q
  | brk => exact q
  | cont => exact q
theorem pss_one (h1 : PS X st t) : PSs X [st] t := by
  intro pins s σ H D I h
  refine wpAny_execs_cons (thn (h1 pins s σ H D I h) fun f s1 q => ?_)
  cases f with
  | next => exact wpAny_execs_nil q
  | ret v => exact q
  | brk => exact q
  | cont => exact q
theorem Inv.quiet {pins : List (Addr × Obj)} {σ : St} {H : Hp} {s : Shared} (I : Inv X pins σ H s) : interactive X.env = false := by simp [interactive, I.ok.kind]
noncomputable def tDrop (te : TE) : TS := fun D σ H => te σ H fun _ H1 => D.nx σ H1
theorem ps_expr (he : PE X e te) (hs : swapsWith e none pos.line X.env = pure false := by rfl) : PS X (.Expr e pos) (tDrop te) := by
  intro pins s σ H D I h
  exact wpAny_Expr_any (thn (he pins s σ H _ I h) fun v s1 ⟨x, H1, I1, r1, q1⟩ => ⟨σ, H1, I1, q1⟩) I.quiet hs
noncomputable def tRet (te : TE) : TS := fun D σ H => te σ H D.rt
theorem ps_ret (he : PE X e te) : PS X (.Return (some e) pos) (tRet te) := by
  intro pins s σ H D I h
  exact wpAny_Return_some (thn (he pins s σ H _ I h) fun v s1 ⟨x, H1, I1, r1, q1⟩ => ⟨x, σ, H1, I1, r1, q1⟩)
noncomputable def tIfS (c : TT) (t u : TS) : TS := fun D σ H => c σ H fun b H1 => if b = true then t D σ H1 else u D σ H1
theorem ps_if {c : Expr} {a b : List Stmt} {tc : TT} (hc : PT X c tc) (ha : PSs X a t) (hb : PSs X b u) : PS X (.If c a b pos) (tIfS tc t u) := by
  intro pins s σ H D I h
  refine wpAny_If (thn (hc pins s σ H _ I h) fun d s1 hz6 => ?_)
  obtain ⟨H1, I1, q1⟩ := hz6
  cases d with
  | true => exact ha pins s1 σ H1 D I1 q1
  | false => exact hb pins s1 σ H1 D I1 q1
noncomputable def tNever : TS := fun _ _ _ => False
theorem ps_never : PS X st tNever := fun _ _ _ _ _ _ h => h.elim
end
noncomputable abbrev TG := V → St → Hp → (St → Hp → Prop) → Prop
noncomputable abbrev TGs := List V → St → Hp → (St → Hp → Prop) → Prop
noncomputable def PG (X : Cx) (target : Expr) (t : TG) : Prop :=
  ∀ (pins : List (Addr × Obj)) (s : Shared) (σ : St) (H : Hp) (v : V) (u : Value) (Q : St → Hp → Prop), Inv X pins σ H s → RelV v u → t v σ H Q →
    wpAny (model X.prog X.w) X.A (assign target X.env u) (fun _ s' => ∃ σ' H', Inv X pins σ' H' s' ∧ Q σ' H') X.xe s
noncomputable def PGs (X : Cx) (ts : List Expr) (t : TGs) : Prop :=
  ∀ (pins : List (Addr × Obj)) (s : Shared) (σ : St) (H : Hp) (vs : List V) (us : List Value) (Q : St → Hp → Prop), Inv X pins σ H s → Vals vs us → t vs σ H Q →
    wpAny (model X.prog X.w) X.A (assignInOrder ((assignEach ts X.env).map (·.2)) us) (fun _ s' => ∃ σ' H', Inv X pins σ' H' s' ∧ Q σ' H') X.xe s
noncomputable abbrev TSet := V → V → V → Hp → (Hp → Prop) → Prop
noncomputable def PSet (X : Cx) (t : TSet) : Prop :=
  ∀ (pins : List (Addr × Obj)) (s : Shared) (σ : St) (H : Hp) (o i v : V) (ov iv u : Value) (Q : Hp → Prop), Inv X pins σ H s → RelV o ov → RelV i iv → RelV v u → t o i v H Q →
    wpAny (model X.prog X.w) X.A (setItem ov iv u) (fun _ s' => ∃ H', Inv X pins σ H' s' ∧ Q H') X.xe s
section
variable {X : Cx} {pos : Pos}
noncomputable def gName (i : Nat) : TG := fun v σ H Q => Q (σ.set i (some v)) H
theorem pg_name {i : Nat} {x : Str} (hN : X.N.Nodup) (hi : X.N[i]? = some x) (hx : Loc X.env.scope x) (hf : X.fn x = true ∨ X.env.scope.names.lookup x = some .local := by first | exact .inl rfl | exact .inr rfl | assumption) : PG X (.Name x pos) (gName i) := by
  intro pins s σ H v u Q I r h
  exact wpAny_assign_Name (store_ok I hN hi hx r (fun s' I' => ⟨_, H, I', h⟩) hf)
noncomputable def gNil : TGs := fun vs σ H Q => vs = [] ∧ Q σ H
noncomputable def gCons (t : TG) (u : TGs) : TGs := fun vs σ H Q => ∃ v r, vs = v :: r ∧ t v σ H fun σ' H' => u r σ' H' Q
theorem pgs_nil : PGs X [] gNil := by
  intro pins s σ H vs us Q I r h
  obtain ⟨e, h⟩ := h
  subst e
  cases r
  exact assignInOrder_nil ⟨σ, H, I, h⟩
theorem pgs_cons {e : Expr} {es : List Expr} {t : TG} {u : TGs} (h1 : PG X e t) (h2 : PGs X es u)
    (hs : (assignEach (e :: es) X.env).map (·.2) = assign e X.env :: (assignEach es X.env).map (·.2) := by rfl) : PGs X (e :: es) (gCons t u) := by
  intro pins s σ H vs us Q I r h
  obtain ⟨v, vr, e1, h⟩ := h
  subst e1
  cases r with
  | cons r rr =>
    rw [hs]
    refine assignInOrder_cons (thn (h1 pins s σ H _ _ _ I r h) fun _ s1 hz7 => ?_)
    obtain ⟨σ1, H1, I1, q1⟩ := hz7
    exact h2 pins s1 σ1 H1 _ _ Q I1 rr q1
noncomputable def gTup (K : PySem.W.Frag) (n : Nat) (t : TGs) : TG := fun v σ H Q => ∃ a xs, v = .ref a ∧ SqT K H a xs ∧ xs.length = n ∧ t xs σ H Q
theorem pg_tup {es : List Expr} {k : Nat} {t : TGs} {n : Nat} (hc : X.calm = true) (h : PGs X es t)
    (hn : (assignEach es X.env).length = n := by rfl) (hst : (assignEach es X.env).findIdx? (·.1) = none := by rfl) : PG X (.Tuple es k pos) (gTup X.K n t) := by
  intro pins s σ H v u Q I r hw
  obtain ⟨a, xs, e1, hq, hl, hw⟩ := hw
  subst e1
  cases r
  obtain ⟨its, rv, ht, hz⟩ := I.tuple hq
  refine assign_Tuple_tuple (I.ok.hd hc) ht (by simp [hn, ← hl, rv.length]) hst fun h' hx => ?_
  have I1 : Inv X pins σ H { s with heap := h' } := I.kept (t' := s.toks) fun b o e => hx b o (Nat.ne_of_lt (Heap.lt_size e)) e
  exact h pins _ σ H xs _ Q I1 (by simpa using rv) hw
noncomputable def gSub (to ti : TE) (t : TSet) : TG := fun v σ H Q => to σ H fun o H1 => ti σ H1 fun i H2 => t o i v H2 fun H3 => Q σ H3
theorem pg_sub {o i : Expr} {to ti : TE} {t : TSet} (ho : PE X o to) (hi : PE X i ti) (hs : PSet X t)
    (ha : ∀ v, assign (.Subscript o i pos) X.env v = (do
      let ov ← holding [v] (eval o X.env)
      let iv ← holding [v, ov] (eval i X.env)
      standAt pos
      holding [v, ov, iv] (setItem ov iv v)
      release [v, ov, iv] []) := by intro _; rfl) : PG X (.Subscript o i pos) (gSub to ti t) := by
  intro pins s σ H v u Q I r h
  rw [ha]
  refine wpAny_bind (wpAny_holding (thn (ho pins s σ H _ I h) fun ov s1 hz8 => ?_))
  obtain ⟨x, H1, I1, r1, q1⟩ := hz8
  refine wpAny_bind (wpAny_holding (thn (hi pins s1 σ H1 _ I1 q1) fun iv s2 hz9 => ?_))
  obtain ⟨y, H2, I2, r2, q2⟩ := hz9
  refine wpAny_bind (wpAny_standAt (wpAny_bind (wpAny_holding (thn (hs pins s2 σ H2 x y v ov iv u _ I2 r1 r2 r q2) fun _ s3 hz10 => ?_))))
  obtain ⟨H3, I3, q3⟩ := hz10
  exact wpAny_release ⟨σ, H3, I3, q3⟩
noncomputable def tAsg (te : TE) (g : TG) : TS := fun D σ H => te σ H fun x H1 => g x σ H1 D.nx
theorem ps_asg {tg e : Expr} {te : TE} {g : TG} (he : PE X e te) (hg : PG X tg g) (hs : swapsWithSole [tg] e pos.line X.env = pure false := by rfl) (hw : swappedStores [tg] e X.env = pure none := by rfl)
    (h1 : (assignEach [tg] X.env).map (·.2) = [assign tg X.env] := by rfl) : PS X (.Assign [tg] e pos) (tAsg te g) := by
  intro pins s σ H D I h
  refine wpAny_Assign_stores (thn (he pins s σ H _ I h) fun v s1 hz11 => ?_) hs hw
  obtain ⟨x, H1, I1, r1, q1⟩ := hz11
  rw [h1]
  exact thn (hg pins s1 σ H1 x v _ I1 r1 q1) fun _ s2 q => q
theorem ps_set {i : Nat} {x : Str} {e : Expr} {te : TE} {pos' : Pos} (hN : X.N.Nodup) (hi : X.N[i]? = some x) (hx : Loc X.env.scope x) (he : PE X e te) (hs : swapsWith e (some (.Name x pos')) pos.line X.env = pure false := by rfl) (hf : X.fn x = true ∨ X.env.scope.names.lookup x = some .local := by first | exact .inl rfl | exact .inr rfl | assumption) :
    PS X (.Assign [.Name x pos'] e pos) (tAsg te (gName i)) := by
  intro pins s σ H D I h
  refine wpAny_Assign_Name (thn (he pins s σ H _ I h) fun v s1 hz12 => ?_) hs
  obtain ⟨y, H1, I1, r1, q1⟩ := hz12
  exact store_ok I1 hN hi hx r1 (fun s2 I2 => ⟨_, H1, I2, q1⟩) hf
end
section
variable {X : Cx} {pos : Pos}
noncomputable def tWhile (c : TT) (tb : TS) : TS := fun D σ H => ∃ W : Nat → St → Hp → Prop, (∃ m, W m σ H) ∧ ∀ m σ H, W m σ H →
  c σ H fun b H1 => if b = true then ∃ N : St → Hp → Prop, (∀ σ' H', N σ' H' → ∃ m', m' < m ∧ W m' σ' H') ∧ tb { D with nx := N, ct := N, bk := D.nx } σ H1 else D.nx σ H1
theorem ps_while {c : Expr} {body : List Stmt} {tc : TT} {tb : TS} (hp : PassesOwn (model X.prog X.w) X.A X.env X.xe) (hc : PT X c tc) (hb : PSs X body tb) : PS X (.While c body [] pos) (tWhile tc tb) := by
  intro pins s σ H D I h
  obtain ⟨W, ⟨m0, w0⟩, turn⟩ := h
  refine wpAny_While (codeAny_whileLoop (fun n s' => ∃ σ' H', Inv X pins σ' H' s' ∧ W n σ' H') ?_ m0 ⟨σ, H, I, w0⟩)
  rintro n s1 ⟨σ1, H1, I1, w1⟩
  refine wpAny_passesOwn hp (thn (hc pins s1 σ1 H1 _ I1 (turn n σ1 H1 w1)) fun b s2 hz13 => ?_)
  obtain ⟨H2, I2, q2⟩ := hz13
  cases b with
  | true =>
    obtain ⟨N, hN, q2⟩ := q2
    rw [if_pos rfl]
    refine wpAny_passesOwn hp (thn (hb pins s2 σ1 H2 _ I2 q2) fun f s3 q3 => ?_)
    cases f with
    | next =>
      obtain ⟨σ3, H3, I3, n3⟩ := q3
      obtain ⟨m', hm, w3⟩ := hN σ3 H3 n3
      exact ⟨m', hm, σ3, H3, I3, w3⟩
    | cont =>
      obtain ⟨σ3, H3, I3, n3⟩ := q3
      obtain ⟨m', hm, w3⟩ := hN σ3 H3 n3
      exact ⟨m', hm, σ3, H3, I3, w3⟩
    | brk => exact q3
    | ret v => exact q3
  | false =>
    rw [if_neg Bool.false_ne_true]
    exact wpAny_execs_nil ⟨σ1, H2, I2, q2⟩
end
structure It where
  go : Nat → Hp → Prop
  yld : Nat → Hp → V → Hp → Prop
  stop : Nat → Hp → Prop
noncomputable def FpOk (X : Cx) (pins : List (Addr × Obj)) (H : Hp) (b : Addr) : Prop :=
  H b = none ∧ b ≠ X.env.locals ∧ b ∉ X.fs ∧ (b ∈ X.ex ∨ X.s₀.heap.objs.size ≤ b) ∧ (∀ x c, X.env.cells.lookup x = some c → c ≠ b) ∧ ∀ p ∈ X.pn ++ pins, p.1 ≠ b
theorem Inv.fpOk {X : Cx} {pins : List (Addr × Obj)} {σ : St} {H H' : Hp} {s : Shared} {b : Addr} (I : Inv X pins σ H s) (hb : s.heap.objs.size ≤ b) (hn : H' b = none) : FpOk X pins H' b := by
  refine ⟨hn, Nat.ne_of_gt (Nat.lt_of_lt_of_le I.lt hb), I.nofs hb, .inr (Nat.le_trans I.sz hb), fun x c e z => ?_, fun p hp z => ?_⟩
  · obtain ⟨v, q⟩ := I.cell x c e
    exact absurd (Nat.lt_of_lt_of_le q.lt (by rw [z]; exact hb)) (Nat.lt_irrefl _)
  · exact absurd (Nat.lt_of_lt_of_le (Heap.lt_size (I.pin p hp).1) (by rw [z]; exact hb)) (Nat.lt_irrefl _)
structure Turn (P : Program) (w : World) (K : PySem.W.Frag) (tg : Expr) (J : It) (fp : List Addr) (it : Addr) (tn : Nat → Heap → Prop) : Prop where
  mem : it ∈ fp
  obj : ∀ i h, tn i h → ∀ b ∈ fp, ∃ o, h.get? b = some o ∧ ∀ v, o.data ≠ .cell v
  keep : ∀ i h h', tn i h → (∀ b ∈ fp, ∀ o, h.get? b = some o → h'.get? b = some o) → tn i h'
  item : ∀ (X : Cx), X.prog = P → X.w = w → X.K = K → X.calm = true → ∀ (i : Nat) (pins : List (Addr × Obj)) (s : Shared) (σ : St) (H : Hp) (E : Value → Shared → Prop), Inv X pins σ H s → (∀ b ∈ fp, FpOk X pins H b) → tn i s.heap → J.go i H →
    wpAny (model P w) X.A (pyNext (.ref it)) (fun r s1 => ∃ u, r = some u ∧
      wpAny (model P w) X.A (letOwnedTupleGo tg (.ref it) u) (fun _ s2 => ∃ x H', Inv X pins σ H' s2 ∧ RelV x u ∧ J.yld i H x H' ∧ tn (i + 1) s2.heap ∧ ∀ b ∈ fp, H' b = none) E s1) E s
  done : ∀ (X : Cx), X.prog = P → X.w = w → X.K = K → X.calm = true → ∀ (i : Nat) (pins : List (Addr × Obj)) (s : Shared) (σ : St) (H : Hp) (E : Value → Shared → Prop), Inv X pins σ H s → (∀ b ∈ fp, FpOk X pins H b) → tn i s.heap → J.stop i H →
    wpAny (model P w) X.A (pyNext (.ref it)) (fun r s1 => r = none ∧ Inv X pins σ H s1) E s
  self : ∀ (A : Around) (i : Nat) (s : Shared) (Q : Value → Shared → Prop) (E : Value → Shared → Prop), tn i s.heap → Q (.ref it) s → wpAny (model P w) A (pyIter (.ref it)) Q E s
noncomputable abbrev TI := St → Hp → (It → Hp → Prop) → Prop
noncomputable def PIE (X : Cx) (pins : List (Addr × Obj)) (σ : St) (tg : Expr) (R : It → Hp → Prop) (itv : Value) (s2 : Shared) : Prop :=
  ∃ (it : Addr) (fp : List Addr) (tn : Nat → Heap → Prop) (J : It) (H' : Hp), itv = .ref it ∧ Inv X pins σ H' s2 ∧ Turn X.prog X.w X.K tg J fp it tn ∧ tn 0 s2.heap ∧ (∀ b ∈ fp, FpOk X pins H' b) ∧ R J H'
noncomputable def PI (X : Cx) (tg iter : Expr) (wi : TI) : Prop :=
  ∀ (pins : List (Addr × Obj)) (s : Shared) (σ : St) (H : Hp) (R : It → Hp → Prop), Inv X pins σ H s → wi σ H R →
    wpAny (model X.prog X.w) X.A (eval iter X.env) (fun v s1 => wpAny (model X.prog X.w) X.A (pyIter v) (PIE X pins σ tg R) X.xe s1) X.xe s
theorem go_of {M : Model} {A : Around} {E : Value → Shared → Prop} {s : Shared} {tg : Expr} {it : Addr} {u : Value} {o : Obj} {n : String} {vs : Array Value} {Q : Unit → Shared → Prop} (ho : s.heap.get? it = some o) (hc : o.cls = .type n) (hd : o.data = .fields vs)
    (hn : ["enumerate", "zip", "dict_itemiterator", "dict_reverseitemiterator", "odict_iterator", "itertools.zip_longest", "itertools.pairwise"].contains n = false) (hQ : Q () s) : wpAny M A (letOwnedTupleGo tg (.ref it) u) Q E s := by
  unfold letOwnedTupleGo
  cases tg <;> first
    | exact wpAny_pure hQ
    | (cases u <;> first
        | exact wpAny_pure hQ
        | (refine wpAny_bind (wpAny_load ho ?_)
           rw [hc, hd]
           show wpAny M A (if (["enumerate", "zip", "dict_itemiterator", "dict_reverseitemiterator", "odict_iterator", "itertools.zip_longest", "itertools.pairwise"].contains n && vs[0]? == some (rawInt _)) = true then _ else _) Q E s
           rw [if_neg (by intro h; rw [hn, Bool.false_and] at h; cases h)]
           exact wpAny_pure hQ))
noncomputable def Itl (K : PySem.W.Frag) (a : Addr) : It :=
  ⟨fun i H => ∃ xs x, SqL K H a xs ∧ xs[i]? = some x, fun i H x H' => H' = H ∧ ∀ xs, SqL K H a xs → xs[i]? = some x, fun i H => ∃ xs, SqL K H a xs ∧ xs.length ≤ i⟩
noncomputable def Itr (lo : Int) (n : Nat) : It := ⟨fun i _ => i < n, fun i H x H' => H' = H ∧ x = .int (lo + i), fun i _ => n ≤ i⟩
theorem turn_list {P : Program} {w : World} {K : PySem.W.Frag} {tg : Expr} (a it : Addr) : Turn P w K tg (Itl K a) [it] it (fun i h => h.IsListIter it a i) where
  mem := by simp
  obj := fun i h st b hb => by
    have e : b = it := by simpa using hb
    subst e
    obtain ⟨o, e, c, d⟩ := st
    exact ⟨o, e, fun v z => by rw [d] at z; cases z⟩
  keep := fun i h h' st k => st.at fun o e => k it (by simp) o e
  item := by
    intro X hP hw hK hc i pins s σ H E I hf st hg
    subst hP hw hK
    obtain ⟨xs, x, hq, hx⟩ := hg
    obtain ⟨its, rv, p, hz⟩ := I.list hq
    obtain ⟨u, hu, ru⟩ := rv.get hx
    obtain ⟨f0, f1, f2, f3, f4, f5⟩ := hf it (by simp)
    refine wpAny_pyNext_list_item st p.isList (x := u) (by simpa using hu) fun h' st' sb => ?_
    have I1 : Inv X pins σ H { s with heap := h' } := I.turned (t' := s.toks) (fun b o hb e => (sb.2 b hb).trans e) f0 f1 f3 f4 f5
    obtain ⟨o, e, c, d⟩ := id st'
    exact ⟨u, rfl, go_of (s := { s with heap := h' }) e c d (by decide) ⟨x, H, I1, ru, ⟨rfl, fun ys hy => by rw [I.list_inj hy hq]; exact hx⟩, st', fun b hb => (hf b hb).1⟩⟩
  done := by
    intro X hP hw hK hc i pins s σ H E I hf st hg
    subst hP hw hK
    obtain ⟨xs, hq, hx⟩ := hg
    obtain ⟨its, rv, p, hz⟩ := I.list hq
    obtain ⟨f0, f1, f2, f3, f4, f5⟩ := hf it (by simp)
    have hl := rv.length
    exact wpAny_pyNext_list_end (I.ok.hd hc) st p.isList (by simp; omega) fun h' eb => ⟨rfl, I.turned (t' := s.toks) (fun b o hb e => eb b o hb e) f0 f1 f3 f4 f5⟩
  self := fun _ _ _ _ _ st h => wpAny_pyIter_listiter st h
theorem turn_range {P : Program} {w : World} {K : PySem.W.Frag} {tg : Expr} (it : Addr) (lo : Int) (n : Nat) : Turn P w K tg (Itr lo n) [it] it (fun i h => IsRangeIter h it (lo + (i : Nat) * 1) ((n : Int) - (i : Nat)) 1) where
  mem := by simp
  obj := fun i h st b hb => by
    have e : b = it := by simpa using hb
    subst e
    exact ⟨_, st, fun v z => by
      have z' : Data.fields _ = Data.cell v := z
      cases z'⟩
  keep := fun i h h' st k => k it (by simp) _ st
  item := by
    intro X hP hw hK hc i pins s σ H E I hf st hg
    subst hP hw hK
    obtain ⟨f0, f1, f2, f3, f4, f5⟩ := hf it (by simp)
    have W := Walks.range (prog := X.prog) (w := X.w) (I.ok.hd hc) it lo 1 n
    refine W.item i s _ _ hg st fun v h' tk hv st' kk => ?_
    obtain ⟨t, rfl⟩ := hv
    have I1 : Inv X pins σ H { s with heap := h', toks := tk } := I.turned (fun b o hb e => kk b o (by simpa using hb) e) f0 f1 f3 f4 f5
    refine ⟨_, rfl, go_of (s := { s with heap := h', toks := tk }) (n := "range_iterator") st' rfl rfl (by decide) ⟨.int (lo + i), H, I1, ⟨t, ?_⟩, ⟨rfl, rfl⟩, st', fun b hb => (hf b hb).1⟩⟩
    rw [Int.mul_one]
  done := by
    intro X hP hw hK hc i pins s σ H E I hf st hg
    subst hP hw hK
    obtain ⟨f0, f1, f2, f3, f4, f5⟩ := hf it (by simp)
    exact wpAny_pyNext_range_end (I.ok.hd hc) st (by have : n ≤ i := hg; omega) fun h' eb => ⟨rfl, I.turned (t' := s.toks) (fun b o hb e => eb b o hb e) f0 f1 f3 f4 f5⟩
  self := fun _ _ _ _ _ st h => wpAny_pyIter_rangeiter st h
end L2
namespace L2
open PySem PySem.Spec PyProof.Rows
section
variable {X : Cx} {tg : Expr}
noncomputable def iList (K : PySem.W.Frag) (tl : TE) : TI := fun σ H R => tl σ H fun x H1 => ∃ a, x = .ref a ∧ (∃ xs, SqL K H1 a xs) ∧ R (Itl K a) H1
theorem pi_list {l : Expr} {tl : TE} (hl : PE X l tl) : PI X tg l (iList X.K tl) := by
  intro pins s σ H R I h
  refine thn (hl pins s σ H _ I h) fun v s1 hz14 => ?_
  obtain ⟨x, H1, I1, r1, q1⟩ := hz14
  obtain ⟨a, e, ⟨xs, hq⟩, q⟩ := q1
  subst e
  cases r1
  obtain ⟨its, rv, p, hz⟩ := I1.list hq
  refine wpAny_pyIter_list p.isList ?_
  refine ⟨s1.heap.objs.size, [s1.heap.objs.size], _, _, H1, rfl, I1.kept (t' := s1.toks) fun b o e => Heap.get?_push_of_some _ e, turn_list a _, ⟨_, Heap.get?_push_size _ rfl, rfl, rfl⟩, fun b hb => ?_, q⟩
  have e : b = s1.heap.objs.size := by simpa using hb
  subst e
  exact I1.fpOk (Nat.le_refl _) (I1.hok.fresh (Nat.le_refl _))
theorem range_it {pins : List (Addr × Obj)} {σ : St} {H : Hp} {s : Shared} {R : It → Hp → Prop} {E : Value → Shared → Prop} {lo hi : Int} {t u v : Tok} {tk : Nat} (I : Inv X pins σ H s) (h1 : -(2 ^ 62) ≤ lo) (h2 : lo < 2 ^ 62) (h3 : -(2 ^ 62) ≤ hi) (h4 : hi < 2 ^ 62)
    (q : R (Itr lo (hi - lo).toNat) H) : wpAny (model X.prog X.w) X.A (pyIter (.ref s.heap.objs.size)) (PIE X pins σ tg R) E { s with heap := s.heap.push { cls := .type "range", data := .fields #[.int lo t, .int hi u, .int 1 v] }, toks := tk } := by
  refine wpAny_pyIter_range (IsRange.new ..) (small_one h1 h2 h3 h4) ?_
  have I1 : Inv X pins σ H { s with heap := s.heap.push { cls := .type "range", data := .fields #[.int lo t, .int hi u, .int 1 v] }, toks := tk } := I.kept fun b o e => Heap.get?_push_of_some _ e
  refine ⟨(s.heap.push { cls := .type "range", data := .fields #[.int lo t, .int hi u, .int 1 v] }).objs.size, [(s.heap.push { cls := .type "range", data := .fields #[.int lo t, .int hi u, .int 1 v] }).objs.size], _, _, H, rfl,
    I1.kept (t' := tk) fun b o e => Heap.get?_push_of_some _ e, turn_range _ lo (hi - lo).toNat, ?_, fun b hb => ?_, q⟩
  · have e1 : lo + ((0 : Nat) : Int) * 1 = lo := by simp
    have e2 : (((hi - lo).toNat : Nat) : Int) - ((0 : Nat) : Int) = Builtin.Range.rangeSize lo hi 1 := by rw [rangeSize_one]; split <;> omega
    show IsRangeIter _ _ (lo + ((0 : Nat) : Int) * 1) ((((hi - lo).toNat : Nat) : Int) - ((0 : Nat) : Int)) 1
    rw [e1, e2]
    exact Heap.get?_push_size _ rfl
  · have e : b = (s.heap.push { cls := .type "range", data := .fields #[.int lo t, .int hi u, .int 1 v] }).objs.size := by simpa using hb
    subst e
    exact I1.fpOk (Nat.le_refl _) (I1.hok.fresh (Nat.le_refl _))
noncomputable def iRng1 (ta : TA) : TI := fun σ H R => ta σ H fun vs H1 => ∃ j : Int, vs = [.int j] ∧ -(2 ^ 62) ≤ j ∧ j < 2 ^ 62 ∧ R (Itr 0 j.toNat) H1
noncomputable def iRng2 (ta : TA) : TI := fun σ H R => ta σ H fun vs H1 => ∃ i j : Int, vs = [.int i, .int j] ∧ (-(2 ^ 62) ≤ i ∧ i < 2 ^ 62 ∧ -(2 ^ 62) ≤ j ∧ j < 2 ^ 62) ∧ R (Itr i (j - i).toNat) H1
theorem pi_range1 {a : Expr} {ta : TA} {p pos : Pos} (hg : Gl X "range") (hm : X.mg "range" = none) (ha : PA X [a] ta) (hs : starEach [a] X.env = [(false, eval a X.env)] := by rfl) : PI X tg (.Call (.Name "range" p) [a] [] pos) (iRng1 ta) := by
  intro pins s σ H R I h
  refine Call_ (ld_blt I hg hm boot_range (PyProof.Rows.callWith_type1 (thn (ha pos pins s σ H _ I h) fun us s1 hz15 => ?_) hs rfl))
  obtain ⟨vs, H1, I1, r1, q1⟩ := hz15
  obtain ⟨j, e, q1, q2, q⟩ := q1
  subst e
  cases r1 with
  | cons r rr =>
    cases rr
    obtain ⟨t, rfl⟩ := r
    exact call_range_1 (range_it I1 (by omega) (by omega) q1 q2 (by simpa using q))
theorem pi_range2 {a b : Expr} {ta : TA} {p pos : Pos} (hg : Gl X "range") (hm : X.mg "range" = none) (ha : PA X [a, b] ta) (hs : starEach [a, b] X.env = [(false, eval a X.env), (false, eval b X.env)] := by rfl) (hs2 : starEach [b] X.env = [(false, eval b X.env)] := by rfl) :
    PI X tg (.Call (.Name "range" p) [a, b] [] pos) (iRng2 ta) := by
  intro pins s σ H R I h
  refine Call_ (ld_blt I hg hm boot_range (PyProof.Rows.callWith_type1 (thn (ha pos pins s σ H _ I h) fun us s1 hz16 => ?_) (by rw [hs, hs2]) (by rw [hs2]; rfl)))
  obtain ⟨vs, H1, I1, r1, q1⟩ := hz16
  obtain ⟨i, j, e, ⟨q1, q2, q3, q4⟩, q⟩ := q1
  subst e
  cases r1 with
  | cons r rr =>
    cases rr with
    | cons r' rr =>
      cases rr
      obtain ⟨t, rfl⟩ := r
      obtain ⟨t', rfl⟩ := r'
      exact call_range_2 (range_it I1 q1 q2 q3 q4 q)
noncomputable def tFor (wi : TI) (g : TG) (tb : TS) : TS := fun D σ H => wi σ H fun J H1 => ∃ W : Nat → Nat → St → Hp → Prop, (∃ m, W 0 m σ H1) ∧ ∀ i m σ H, W i m σ H →
  (J.stop i H ∧ D.nx σ H) ∨ (J.go i H ∧ ∃ N : St → Hp → Prop, (∀ σ' H', N σ' H' → ∃ m', m' < m ∧ W (i + 1) m' σ' H') ∧ ∀ x H', J.yld i H x H' → g x σ H' fun σ2 H2 => tb { D with nx := N, ct := N, bk := D.nx } σ2 H2)
noncomputable def pinsAt (fp : List Addr) (h : Heap) : List (Addr × Obj) := fp.filterMap fun b => (h.get? b).map fun o => (b, o)
theorem mem_pinsAt {fp : List Addr} {h : Heap} {b : Addr} {o : Obj} (hb : b ∈ fp) (e : h.get? b = some o) : (b, o) ∈ pinsAt fp h := List.mem_filterMap.mpr ⟨b, hb, by rw [e]; rfl⟩
theorem of_pinsAt {fp : List Addr} {h : Heap} {p : Addr × Obj} (hp : p ∈ pinsAt fp h) : p.1 ∈ fp ∧ h.get? p.1 = some p.2 := by
  obtain ⟨b, hb, e⟩ := List.mem_filterMap.mp hp
  cases q : h.get? b with
  | none => rw [q] at e; cases e
  | some o =>
    rw [q] at e
    have e' : (b, o) = p := Option.some.inj e
    subst e'
    exact ⟨hb, q⟩
theorem Inv.pinned {pins : List (Addr × Obj)} {σ : St} {H : Hp} {s : Shared} {fp : List Addr} (I : Inv X pins σ H s) (hf : ∀ b ∈ fp, FpOk X pins H b) (ho : ∀ b ∈ fp, ∃ o, s.heap.get? b = some o ∧ ∀ v, o.data ≠ .cell v) : Inv X (pins ++ pinsAt fp s.heap) σ H s :=
  I.pins_of fun p hp => (List.mem_append.mp hp).elim (fun z => I.pin p (List.mem_append_right _ z)) fun z => by
    obtain ⟨hb, e⟩ := of_pinsAt z
    obtain ⟨f0, f1, f2, _⟩ := hf p.1 hb
    obtain ⟨o, e', d⟩ := ho p.1 hb
    rw [e] at e'; cases e'
    exact ⟨e, f0, f1, f2, d⟩
theorem Inv.unpinned {pins pl : List (Addr × Obj)} {σ : St} {H : Hp} {s : Shared} (I : Inv X (pins ++ pl) σ H s) : Inv X pins σ H s := I.pins_of fun p hp => I.pin p (List.mem_append_right _ (List.mem_append_left _ hp))
theorem ps_for {iter : Expr} {body : List Stmt} {wi : TI} {g : TG} {tb : TS} {pos : Pos} (hp : PassesOwn (model X.prog X.w) X.A X.env X.xe) (hc : X.calm = true) (hi : PI X tg iter wi) (hg : PG X tg g) (hb : PSs X body tb)
    (hs : ∀ x, foldedSetIterable iter X.env x = pure x := by intro _; rfl) : PS X (.For tg iter body [] pos) (tFor wi g tb) := by
  intro pins s σ H D I h
  refine wpAny_For (thn (hi pins s σ H _ I h) fun v s1 h1 => thn h1 fun itv s2 h2 => ?_) hs
  obtain ⟨it, fp, tn, J, H2, e, I2, T, st2, f2, W, ⟨m0, w0⟩, turn⟩ := h2
  subst e
  have stat : ∀ {H' : Hp}, (∀ b ∈ fp, H' b = none) → ∀ b ∈ fp, FpOk X pins H' b := fun hn b hb => ⟨hn b hb, (f2 b hb).2⟩
  refine codeAny_forLoop_any (fun n s' => ∃ i σ' H', Inv X pins σ' H' s' ∧ tn i s'.heap ∧ (∀ b ∈ fp, H' b = none) ∧ W i n σ' H') ?_ m0 ⟨0, σ, H2, I2, st2, fun b hb => (f2 b hb).1, w0⟩
  rintro n s3 ⟨i, σ3, H3, I3, st3, fr3, w3⟩
  rcases turn i n σ3 H3 w3 with ⟨stop, qn⟩ | ⟨go, N, hN, step⟩
  · refine wpAny_passesOwn hp (thn (T.done X rfl rfl rfl hc i pins s3 σ3 H3 X.xe I3 (stat fr3) st3 stop) fun r s4 ⟨hr, I4⟩ => ?_)
    subst hr
    exact wpAny_execs_nil ⟨σ3, H3, I4, qn⟩
  · refine wpAny_passesOwn hp (thn (T.item X rfl rfl rfl hc i pins s3 σ3 H3 X.xe I3 (stat fr3) st3 go) fun r s4 ⟨u, hr, h4⟩ => ?_)
    subst hr
    refine wpAny_passesOwn hp (thn h4 fun _ s5 hz17 => ?_)
    obtain ⟨x, H5, I5, r5, y5, st5, fr5⟩ := hz17
    have I5' := I5.pinned (stat fr5) (T.obj _ _ st5)
    refine wpAny_passesOwn hp (thn (hg _ s5 σ3 H5 x u _ I5' r5 (step x H5 y5)) fun _ s6 hz18 => ?_)
    obtain ⟨σ6, H6, I6, q6⟩ := hz18
    refine wpAny_passesOwn hp (thn (hb _ s6 σ6 H6 _ I6 q6) fun f s7 q7 => ?_)
    have again : ∀ {σ7 : St} {H7 : Hp}, Inv X (pins ++ pinsAt fp s5.heap) σ7 H7 s7 → N σ7 H7 → ∃ m, m < n ∧ ∃ i σ' H', Inv X pins σ' H' s7 ∧ tn i s7.heap ∧ (∀ b ∈ fp, H' b = none) ∧ W i m σ' H' := fun {σ7 H7} I7 n7 => by
      obtain ⟨m', hm, w7⟩ := hN σ7 H7 n7
      refine ⟨m', hm, i + 1, σ7, H7, I7.unpinned, T.keep _ _ _ st5 fun b hb o e => (I7.pin (b, o) (List.mem_append_right _ (List.mem_append_right _ (mem_pinsAt hb e)))).1, fun b hb => ?_, w7⟩
      obtain ⟨o, e, d⟩ := T.obj _ _ st5 b hb
      exact (I7.pin (b, o) (List.mem_append_right _ (List.mem_append_right _ (mem_pinsAt hb e)))).2.1
    cases f with
    | next => obtain ⟨σ7, H7, I7, n7⟩ := q7; exact again I7 n7
    | cont => obtain ⟨σ7, H7, I7, n7⟩ := q7; exact again I7 n7
    | brk => obtain ⟨σ7, H7, I7, q7⟩ := q7; exact ⟨σ7, H7, I7.unpinned, q7⟩
    | ret v => obtain ⟨x7, σ7, H7, I7, r7, q7⟩ := q7; exact ⟨x7, σ7, H7, I7.unpinned, r7, q7⟩
end
theorem for_list {K : PySem.W.Frag} {a : Addr} {xs : List V} {g : TG} {tb : TS} {D : Ends} {σ : St} {H : Hp} (Pv : Nat → St → Hp → Prop) (h0 : Pv 0 σ H) (hl : ∀ i σ H, i ≤ xs.length → Pv i σ H → SqL K H a xs)
    (hs : ∀ i x σ H, xs[i]? = some x → Pv i σ H → g x σ H fun σ2 H2 => tb { D with nx := Pv (i + 1), ct := Pv (i + 1), bk := D.nx } σ2 H2) (hd : ∀ σ H, Pv xs.length σ H → D.nx σ H) :
    ∃ W : Nat → Nat → St → Hp → Prop, (∃ m, W 0 m σ H) ∧ ∀ i m σ H, W i m σ H →
      ((Itl K a).stop i H ∧ D.nx σ H) ∨ ((Itl K a).go i H ∧ ∃ N : St → Hp → Prop, (∀ σ' H', N σ' H' → ∃ m', m' < m ∧ W (i + 1) m' σ' H') ∧ ∀ x H', (Itl K a).yld i H x H' → g x σ H' fun σ2 H2 => tb { D with nx := N, ct := N, bk := D.nx } σ2 H2) := by
  refine ⟨fun i m σ H => m = xs.length - i ∧ i ≤ xs.length ∧ Pv i σ H, ⟨xs.length, by simp, Nat.zero_le _, h0⟩, ?_⟩
  rintro i m σ H ⟨rfl, hi, p⟩
  have q := hl i σ H hi p
  by_cases hlt : i < xs.length
  · refine .inr ⟨⟨xs, xs[i], q, by simp [hlt]⟩, Pv (i + 1), fun σ' H' p' => ⟨xs.length - (i + 1), by omega, rfl, hlt, p'⟩, fun x H' y => ?_⟩
    obtain ⟨e, y⟩ := y
    subst e
    exact hs i x σ _ (y xs q) p
  · have e : i = xs.length := by omega
    subst e
    exact .inl ⟨⟨xs, q, Nat.le_refl _⟩, hd σ H p⟩
theorem for_range {lo : Int} {n : Nat} {g : TG} {tb : TS} {D : Ends} {σ : St} {H : Hp} (Pv : Nat → St → Hp → Prop) (h0 : Pv 0 σ H)
    (hs : ∀ i σ H, i < n → Pv i σ H → g (.int (lo + i)) σ H fun σ2 H2 => tb { D with nx := Pv (i + 1), ct := Pv (i + 1), bk := D.nx } σ2 H2) (hd : ∀ σ H, Pv n σ H → D.nx σ H) :
    ∃ W : Nat → Nat → St → Hp → Prop, (∃ m, W 0 m σ H) ∧ ∀ i m σ H, W i m σ H →
      ((Itr lo n).stop i H ∧ D.nx σ H) ∨ ((Itr lo n).go i H ∧ ∃ N : St → Hp → Prop, (∀ σ' H', N σ' H' → ∃ m', m' < m ∧ W (i + 1) m' σ' H') ∧ ∀ x H', (Itr lo n).yld i H x H' → g x σ H' fun σ2 H2 => tb { D with nx := N, ct := N, bk := D.nx } σ2 H2) := by
  refine ⟨fun i m σ H => m = n - i ∧ i ≤ n ∧ Pv i σ H, ⟨n, by simp, Nat.zero_le _, h0⟩, ?_⟩
  rintro i m σ H ⟨rfl, hi, p⟩
  by_cases hlt : i < n
  · refine .inr ⟨hlt, Pv (i + 1), fun σ' H' p' => ⟨n - (i + 1), by omega, rfl, hlt, p'⟩, fun x H' y => ?_⟩
    obtain ⟨e, y⟩ := y
    subst e y
    exact hs i σ _ hlt p
  · have e : i = n := by omega
    subst e
    exact .inl ⟨Nat.le_refl _, hd σ H p⟩
end L2
namespace L2
open PySem PySem.Spec PyProof.Rows
noncomputable abbrev R2 := V → V → Hp → VK → Prop
noncomputable def OpR (X : Cx) (f : Value → Value → Sem Value) (r : R2) : Prop :=
  ∀ (pins : List (Addr × Obj)) (s : Shared) (σ : St) (H : Hp) (x y : V) (v u : Value) (Q : VK), Inv X pins σ H s → RelV x v → RelV y u → r x y H Q →
    wpAny (model X.prog X.w) X.A (f v u) (EP X pins σ Q) X.xe s
noncomputable def UnR (X : Cx) (f : Value → Sem Value) (r : V → Hp → VK → Prop) : Prop :=
  ∀ (pins : List (Addr × Obj)) (s : Shared) (σ : St) (H : Hp) (x : V) (v : Value) (Q : VK), Inv X pins σ H s → RelV x v → r x H Q →
    wpAny (model X.prog X.w) X.A (f v) (EP X pins σ Q) X.xe s
noncomputable def CallR (X : Cx) (f : Value) (r : List V → Hp → VK → Prop) : Prop :=
  ∀ (pins : List (Addr × Obj)) (s : Shared) (σ : St) (H : Hp) (xs : List V) (us : List Value) (Q : VK), Inv X pins σ H s → Vals xs us → r xs H Q →
    wpAny (model X.prog X.w) X.A (call f us) (EP X pins σ Q) X.xe s
noncomputable def TruR (X : Cx) (r : V → Hp → (Bool → Hp → Prop) → Prop) : Prop :=
  ∀ (pins : List (Addr × Obj)) (s : Shared) (σ : St) (H : Hp) (x : V) (v : Value) (Q : Bool → Hp → Prop), Inv X pins σ H s → RelV x v → r x H Q →
    wpAny (model X.prog X.w) X.A (truthy v) (TP X pins σ Q) X.xe s
noncomputable def tOp (r : R2) (ta tb : TE) : TE := fun σ H Q => ta σ H fun x H1 => tb σ H1 fun y H2 => r x y H2 Q
noncomputable def tUn (r : V → Hp → VK → Prop) (ta : TE) : TE := fun σ H Q => ta σ H fun x H1 => r x H1 Q
noncomputable def rI (C : Int → Int → Prop) (g : Int → Int → V) : R2 := fun x y H Q => ∃ i j, x = .int i ∧ y = .int j ∧ C i j ∧ Q (g i j) H
noncomputable def rI0 (g : Int → Int → V) : R2 := fun x y H Q => ∃ i j, x = .int i ∧ y = .int j ∧ Q (g i j) H
noncomputable def rU (g : Int → V) : V → Hp → VK → Prop := fun x H Q => ∃ i, x = .int i ∧ Q (g i) H
section
variable {X : Cx} {a b c : Expr} {ta tb tc : TE} {pos : Pos}
theorem binT (ha : PE X a ta) (hb : PE X b tb) {pins : List (Addr × Obj)} {s : Shared} {σ : St} {H : Hp} {R : V → V → Hp → Prop} (I : Inv X pins σ H s)
    (h : ta σ H fun x H1 => tb σ H1 fun y H2 => R x y H2) {Q : Value → Shared → Prop} {f : Value → Value → Sem Value}
    (hf : ∀ v u s2 x y H2, Inv X pins σ H2 s2 → RelV x v → RelV y u → R x y H2 → wpAny (model X.prog X.w) X.A (f v u) Q X.xe s2) :
    wpAny (model X.prog X.w) X.A (eval a X.env) (fun v s₁ => wpAny (model X.prog X.w) X.A (eval b X.env) (fun u s₂ => wpAny (model X.prog X.w) X.A (f v u) Q X.xe s₂) X.xe s₁) X.xe s := by
  refine thn (ha pins s σ H _ I h) fun v s1 hz19 => ?_
  obtain ⟨x, H1, I1, r1, q1⟩ := hz19
  refine thn (hb pins s1 σ H1 _ I1 q1) fun u s2 hz20 => ?_
  obtain ⟨y, H2, I2, r2, q2⟩ := hz20
  exact hf v u s2 x y H2 I2 r1 r2 q2
theorem pe_op {op : Operator} {r : R2} (ho : OpR X (binaryOp op) r) (ha : PE X a ta) (hb : PE X b tb) : PE X (.BinOp a op b pos) (tOp r ta tb) := by
  intro pins s σ H Q I h
  exact wpAny_BinOp (binT ha hb I h fun v u s2 x y H2 I2 rx ry q => ho pins s2 σ H2 x y v u Q I2 rx ry q)
theorem pe_un {op : UnaryOp} {r : V → Hp → VK → Prop} (ho : UnR X (unaryOp op) r) (ha : PE X a ta) : PE X (.UnaryOp op a pos) (tUn r ta) := by
  intro pins s σ H Q I h
  exact UnaryOp_ (thn (ha pins s σ H _ I h) fun v s1 ⟨x, H1, I1, r1, q1⟩ => ho pins s1 σ H1 x v Q I1 r1 q1)
theorem opI {f : Value → Value → Sem Value} {C : Int → Int → Prop} {g : Int → Int → Int}
    (rule : ∀ (i j : Int) (t u : Tok) (s : Shared) (Q : Value → Shared → Prop) (E : Value → Shared → Prop), C i j → Q (.int (g i j) s.toks) { s with toks := s.toks + 1 } → wpAny (model X.prog X.w) X.A (f (.int i t) (.int j u)) Q E s) :
    OpR X f (rI C fun i j => .int (g i j)) := by
  intro pins s σ H x y v u Q I rx ry h
  obtain ⟨i, j, rfl, rfl, hc, q⟩ := h
  obtain ⟨t, rfl⟩ := rx
  obtain ⟨t', rfl⟩ := ry
  exact rule i j t t' s _ _ hc ⟨.int (g i j), H, I.tok _, ⟨_, rfl⟩, q⟩
theorem opI0 {f : Value → Value → Sem Value} {g : Int → Int → Int}
    (rule : ∀ (i j : Int) (t u : Tok) (s : Shared) (Q : Value → Shared → Prop) (E : Value → Shared → Prop), Q (.int (g i j) s.toks) { s with toks := s.toks + 1 } → wpAny (model X.prog X.w) X.A (f (.int i t) (.int j u)) Q E s) :
    OpR X f (rI0 fun i j => .int (g i j)) := by
  intro pins s σ H x y v u Q I rx ry h
  obtain ⟨i, j, rfl, rfl, q⟩ := h
  obtain ⟨t, rfl⟩ := rx
  obtain ⟨t', rfl⟩ := ry
  exact rule i j t t' s _ _ ⟨.int (g i j), H, I.tok _, ⟨_, rfl⟩, q⟩
theorem opB0 {f : Value → Value → Sem Value} {g : Int → Int → Bool}
    (rule : ∀ (i j : Int) (t u : Tok) (s : Shared) (Q : Value → Shared → Prop) (E : Value → Shared → Prop), Q (.bool (g i j)) s → wpAny (model X.prog X.w) X.A (f (.int i t) (.int j u)) Q E s) :
    OpR X f (rI0 fun i j => .bl (g i j)) := by
  intro pins s σ H x y v u Q I rx ry h
  obtain ⟨i, j, rfl, rfl, q⟩ := h
  obtain ⟨t, rfl⟩ := rx
  obtain ⟨t', rfl⟩ := ry
  exact rule i j t t' s _ _ ⟨.bl (g i j), H, I, rfl, q⟩
noncomputable def CDiv (i j : Int) : Prop := 0 < j ∧ j < 1073741824
noncomputable def CMul (i j : Int) : Prop := (-(2 ^ 64) < i ∧ i < 2 ^ 64) ∨ (-(2 ^ 64) < j ∧ j < 2 ^ 64)
theorem CMul.ok {i j : Int} (h : CMul i j) : IntMulOk i j := by
  rcases h with ⟨h1, h2⟩ | ⟨h1, h2⟩
  · exact .of_left (intBits_le_64 h1 h2)
  · exact .of_right (intBits_le_64 h1 h2)
theorem op_add : OpR X (binaryOp .Add) (rI0 fun i j => .int (i + j)) := opI0 fun _ _ _ _ _ _ _ q => add_int q
theorem op_sub : OpR X (binaryOp .Sub) (rI0 fun i j => .int (i - j)) := opI0 fun _ _ _ _ _ _ _ q => sub_int q
theorem op_mul : OpR X (binaryOp .Mult) (rI CMul fun i j => .int (i * j)) := opI fun _ _ _ _ _ _ _ hc q => mul_int q hc.ok
theorem op_fdiv : OpR X (binaryOp .FloorDiv) (rI CDiv fun i j => .int (i / j)) := opI fun i j _ _ _ _ _ hc q => by
  have h1 : (0 : Int) < j := hc.1
  have h2 : j < 1073741824 := hc.2
  exact floordiv_int (by omega) (by rw [Int.fdiv_eq_ediv_of_nonneg i (by omega)]; exact q) (.inl (PyProof.noPylong_small (by omega)))
theorem op_mod : OpR X (binaryOp .Mod) (rI (fun _ j => 0 < j) fun i j => .int (i % j)) := opI fun i j _ _ _ _ _ hc q => by
  have h1 : (0 : Int) < j := hc
  exact mod_int' (by omega) (by rw [Int.fmod_eq_emod_of_nonneg i (by omega)]; exact q)
theorem unI {f : Value → Sem Value} {g : Int → Int}
    (rule : ∀ (i : Int) (t : Tok) (s : Shared) (Q : Value → Shared → Prop) (E : Value → Shared → Prop), Q (.int (g i) s.toks) { s with toks := s.toks + 1 } → wpAny (model X.prog X.w) X.A (f (.int i t)) Q E s) :
    UnR X f (rU fun i => .int (g i)) := by
  intro pins s σ H x v Q I rx h
  obtain ⟨i, rfl, q⟩ := h
  obtain ⟨t, rfl⟩ := rx
  exact rule i t s _ _ ⟨.int (g i), H, I.tok _, ⟨_, rfl⟩, q⟩
theorem un_neg : UnR X (unaryOp .USub) (rU fun i => .int (-i)) := unI fun _ _ _ _ _ q => neg_int q
end
noncomputable def scal : V → V → Bool
  | .non, .non => true | .non, .int _ => true | .int _, .non => true | .non, .bl _ => true | .bl _, .non => true | .non, .str _ => true | .str _, .non => true
  | .int _, .int _ => true | .bl _, .bl _ => true | .str _, .str _ => true | .byt _, .byt _ => true
  | .int _, .str _ => true | .str _, .int _ => true | .bl _, .str _ => true | .str _, .bl _ => true
  | _, _ => false
noncomputable def rEq : R2 := fun x y H Q => scal x y = true ∧ Q (.bl (decide (x = y))) H
noncomputable def rNe : R2 := fun x y H Q => scal x y = true ∧ Q (.bl (!decide (x = y))) H
theorem dec_int {i j : Int} : decide (V.int i = V.int j) = (i == j) := by
  rw [Bool.eq_iff_iff]
  simp
theorem dec_bl {i j : Bool} : decide (V.bl i = V.bl j) = (i == j) := by
  rw [Bool.eq_iff_iff]
  simp
theorem dec_str {i j : Str} : decide (V.str i = V.str j) = (i == j) := by
  rw [Bool.eq_iff_iff]
  simp
theorem dec_byt {i j : Array UInt8} : decide (V.byt i = V.byt j) = (i.toList == j.toList) := by
  rw [Bool.eq_iff_iff]
  cases i
  cases j
  simp
section
variable {X : Cx} {a b c : Expr} {ta tb tc : TE} {pos : Pos}
theorem fin_bl {pins : List (Addr × Obj)} {σ : St} {H : Hp} {s : Shared} {Q : VK} {k k' : Bool} (I : Inv X pins σ H s) (q : Q (.bl k) H) (e : k = k') : EP X pins σ Q (.bool k') s := by
  subst e
  exact ⟨.bl k, H, I, rfl, q⟩
theorem op_eq : OpR X (compareOp .Eq) rEq := by
  intro pins s σ H x y v u Q I rx ry h
  obtain ⟨hs, q⟩ := h
  cases x with
  | non =>
    cases rx
    cases y with
    | non => cases ry; exact PySem.EqNone.eq_none_none (fin_bl I q (by simp))
    | bl j => cases ry; exact PySem.EqNone.eq_none_bool (fin_bl I q (by simp))
    | int j => obtain ⟨t', rfl⟩ := ry; exact PySem.EqNone.eq_none_int (fin_bl I q (by simp))
    | str j => obtain ⟨t', rfl⟩ := ry; exact PySem.EqNone.eq_none_str (fin_bl I q (by simp))
    | _ => exact absurd (show false = true from hs) Bool.false_ne_true
  | bl i =>
    cases rx
    cases y with
    | non => cases ry; exact PySem.EqNone.eq_bool_none (fin_bl I q (by simp))
    | bl j => cases ry; exact eq_bool (fin_bl I q dec_bl)
    | str j => obtain ⟨t', rfl⟩ := ry; exact PySem.EqMixed.eq_bool_str (fin_bl I q (by simp))
    | _ => exact absurd (show false = true from hs) Bool.false_ne_true
  | int i =>
    obtain ⟨t, rfl⟩ := rx
    cases y with
    | non => cases ry; exact PySem.EqNone.eq_int_none (fin_bl I q (by simp))
    | int j => obtain ⟨t', rfl⟩ := ry; exact eq_int (fin_bl I q dec_int)
    | str j => obtain ⟨t', rfl⟩ := ry; exact PySem.EqMixed.eq_int_str (fin_bl I q (by simp))
    | _ => exact absurd (show false = true from hs) Bool.false_ne_true
  | str i =>
    obtain ⟨t, rfl⟩ := rx
    cases y with
    | non => cases ry; exact PySem.EqNone.eq_str_none (fin_bl I q (by simp))
    | bl j => cases ry; exact PySem.EqMixed.eq_str_bool (fin_bl I q (by simp))
    | int j => obtain ⟨t', rfl⟩ := ry; exact PySem.EqMixed.eq_str_int (fin_bl I q (by simp))
    | str j => obtain ⟨t', rfl⟩ := ry; exact eq_str (fin_bl I q dec_str)
    | _ => exact absurd (show false = true from hs) Bool.false_ne_true
  | byt i =>
    obtain ⟨t, rfl⟩ := rx
    cases y with
    | byt j => obtain ⟨t', rfl⟩ := ry; exact PySem.W.eq_bytes (fin_bl I q dec_byt)
    | _ => exact absurd (show false = true from hs) Bool.false_ne_true
  | _ => cases y <;> exact absurd (show false = true from hs) Bool.false_ne_true
theorem op_ne : OpR X (compareOp .NotEq) rNe := by
  intro pins s σ H x y v u Q I rx ry h
  obtain ⟨hs, q⟩ := h
  cases x with
  | non =>
    cases rx
    cases y with
    | non => cases ry; exact PySem.EqNone.ne_none_none (fin_bl I q (by simp))
    | bl j => cases ry; exact PySem.EqNone.ne_none_bool (fin_bl I q (by simp))
    | int j => obtain ⟨t', rfl⟩ := ry; exact PySem.EqNone.ne_none_int (fin_bl I q (by simp))
    | str j => obtain ⟨t', rfl⟩ := ry; exact PySem.EqNone.ne_none_str (fin_bl I q (by simp))
    | _ => exact absurd (show false = true from hs) Bool.false_ne_true
  | bl i =>
    cases rx
    cases y with
    | non => cases ry; exact PySem.EqNone.ne_bool_none (fin_bl I q (by simp))
    | bl j => cases ry; exact ne_bool (fin_bl I q (congrArg not dec_bl))
    | str j => obtain ⟨t', rfl⟩ := ry; exact PySem.EqMixed.ne_bool_str (fin_bl I q (by simp))
    | _ => exact absurd (show false = true from hs) Bool.false_ne_true
  | int i =>
    obtain ⟨t, rfl⟩ := rx
    cases y with
    | non => cases ry; exact PySem.EqNone.ne_int_none (fin_bl I q (by simp))
    | int j => obtain ⟨t', rfl⟩ := ry; exact ne_int (fin_bl I q (congrArg not dec_int))
    | str j => obtain ⟨t', rfl⟩ := ry; exact PySem.EqMixed.ne_int_str (fin_bl I q (by simp))
    | _ => exact absurd (show false = true from hs) Bool.false_ne_true
  | str i =>
    obtain ⟨t, rfl⟩ := rx
    cases y with
    | non => cases ry; exact PySem.EqNone.ne_str_none (fin_bl I q (by simp))
    | bl j => cases ry; exact PySem.EqMixed.ne_str_bool (fin_bl I q (by simp))
    | int j => obtain ⟨t', rfl⟩ := ry; exact PySem.EqMixed.ne_str_int (fin_bl I q (by simp))
    | str j => obtain ⟨t', rfl⟩ := ry; exact ne_str (fin_bl I q (congrArg not dec_str))
    | _ => exact absurd (show false = true from hs) Bool.false_ne_true
  | byt i =>
    obtain ⟨t, rfl⟩ := rx
    cases y with
    | byt j => obtain ⟨t', rfl⟩ := ry; exact PySem.W.ne_bytes (fin_bl I q (congrArg not dec_byt))
    | _ => exact absurd (show false = true from hs) Bool.false_ne_true
  | _ => cases y <;> exact absurd (show false = true from hs) Bool.false_ne_true
theorem op_le : OpR X (compareOp .LtE) (rI0 fun i j => .bl (decide (i ≤ j))) := opB0 fun _ _ _ _ _ _ _ q => le_int q
theorem op_gt : OpR X (compareOp .Gt) (rI0 fun i j => .bl (decide (j < i))) := opB0 fun _ _ _ _ _ _ _ q => gt_int q
theorem op_ge : OpR X (compareOp .GtE) (rI0 fun i j => .bl (decide (j ≤ i))) := opB0 fun _ _ _ _ _ _ _ q => ge_int q
theorem op_lt_str : OpR X (compareOp .Lt) (fun x y H Q => ∃ i j, x = .str i ∧ y = .str j ∧ Q (.bl (decide (i.cps.toList < j.cps.toList))) H) := by
  intro pins s σ H x y v u Q I rx ry h
  obtain ⟨i, j, rfl, rfl, q⟩ := h
  obtain ⟨t, rfl⟩ := rx
  obtain ⟨t', rfl⟩ := ry
  exact lt_str (fin_bl I q rfl)
theorem op_in_str : OpR X (compareOp .In) (fun x y H Q => ∃ i j, x = .str i ∧ y = .str j ∧ Q (.bl (!(Builtin.Str.occurrences j i 0 j.length 1).isEmpty)) H) := by
  intro pins s σ H x y v u Q I rx ry h
  obtain ⟨i, j, rfl, rfl, q⟩ := h
  obtain ⟨t, rfl⟩ := rx
  obtain ⟨t', rfl⟩ := ry
  exact in_str (fin_bl I q rfl)
theorem nomark (b : Expr) {op : CmpOp} (h : op ≠ .In := by decide) (h2 : op ≠ .NotIn := by decide) : behindInMarks op b = false := by
  have e1 : (op == CmpOp.In) = false := by cases op <;> first | rfl | exact absurd rfl h
  have e2 : (op == CmpOp.NotIn) = false := by cases op <;> first | rfl | exact absurd rfl h2
  cases b <;> simp [behindInMarks, e1, e2]
theorem pe_cmpR {op : CmpOp} {r : R2} (ho : OpR X (compareOp op) r) (ha : PE X a ta) (hb : PE X b tb) (hm : behindInMarks op b = false) : PE X (.Compare a [op] [b] pos) (tOp r ta tb) := by
  intro pins s σ H Q I h
  exact wpAny_Compare1 (binT ha hb I h fun v u s2 x y H2 I2 rx ry q => ho pins s2 σ H2 x y v u Q I2 rx ry q) hm
noncomputable def tTest (t : TE) : TT := fun σ H Q => t σ H fun x H' => ∃ k, x = .bl k ∧ Q k H'
theorem pt_cmpR {op : CmpOp} {r : R2} (ho : OpR X (compareOp op) r) (ha : PE X a ta) (hb : PE X b tb) (hm : behindInMarks op b = false) : PT X (.Compare a [op] [b] pos) (tTest (tOp r ta tb)) := by
  intro pins s σ H Q I h
  refine wpAny_isTrue_Compare1 (thn (ha pins s σ H _ I h) fun v s1 ⟨x, H1, I1, r1, q1⟩ => thn (hb pins s1 σ H1 _ I1 q1) fun u s2 ⟨y, H2, I2, r2, q2⟩ =>
    thn (ho pins s2 σ H2 x y v u _ I2 r1 r2 q2) fun c s3 ⟨z, H3, I3, r3, k, e, q3⟩ => ?_) hm
  subst e
  cases r3
  exact wpAny_truthy_bool ⟨H3, I3, q3⟩
noncomputable def tChain (r r' : R2) (ta tb tc : TE) : TE := fun σ H Q => ta σ H fun x H1 => tb σ H1 fun y H2 => r x y H2 fun z H3 => ∃ k, z = .bl k ∧
  (if k = true then tc σ H3 fun w' H4 => r' y w' H4 Q else Q (.bl false) H3)
theorem pe_chain {op op' : CmpOp} {r r' : R2} (ho : OpR X (compareOp op) r) (ho' : OpR X (compareOp op') r') (ha : PE X a ta) (hb : PE X b tb) (hc : PE X c tc)
    (hm : lastMarks [op, op'] [b, c] = false := by with_unfolding_all rfl) : PE X (.Compare a [op, op'] [b, c] pos) (tChain r r' ta tb tc) := by
  intro pins s σ H Q I h
  refine Compare_chain (thn (ha pins s σ H _ I h) fun v s1 ⟨x, H1, I1, r1, q1⟩ => chain_link (thn (hb pins s1 σ H1 _ I1 q1) fun u s2 ⟨y, H2, I2, r2, q2⟩ =>
    thn (ho pins s2 σ H2 x y v u _ I2 r1 r2 q2) fun d s3 ⟨z, H3, I3, r3, k, e, q3⟩ => ?_)) hm
  subst e
  cases r3
  refine wpAny_truthy_bool ?_
  cases k with
  | false => exact ite_ff ⟨.bl false, H3, I3, rfl, q3⟩
  | true => exact ite_tt (chain_last (thn (hc pins s3 σ H3 _ I3 q3) fun w' s4 ⟨z', H4, I4, r4, q4⟩ => ho' pins s4 σ H4 y z' u w' Q I4 r2 r4 q4))
noncomputable def TruV (K : PySem.W.Frag) (x : V) (H : Hp) (k : Bool) : Prop :=
  match x with
  | .non => k = false
  | .bl b => k = b
  | .int i => k = (i != 0)
  | .str y => y.length ≤ sizeLine ∧ k = ((y.length : Int) != 0)
  | .byt y => y.size ≤ sizeLine ∧ k = ((y.size : Int) != 0)
  | .ref p => (∃ xs, SqL K H p xs ∧ k = !xs.isEmpty) ∨ (∃ xs, SqT K H p xs ∧ k = !xs.isEmpty) ∨ ∃ kvs, H p = some (.dK kvs) ∧ k = !kvs.isEmpty
  | _ => False
theorem isEmpty_kv {κ : Type} {kvs : List (κ × V)} {vs : List (κ × Value)} (r : KV kvs vs) : (!vs.isEmpty) = !kvs.isEmpty := by
  cases r <;> rfl
theorem isEmpty_of {xs : List V} {its : List Value} (r : Vals xs its) : (!its.toArray.isEmpty) = !xs.isEmpty := by
  cases r <;> simp
theorem line63 : (sizeLine : Nat) < 2 ^ 63 := by rw [sizeLine_eq]; decide
theorem tru_ok : TruR X (fun x H Q => ∃ k, TruV X.K x H k ∧ Q k H) := by
  intro pins s σ H x v Q I rx h
  obtain ⟨k, e, q⟩ := h
  have hl := line63
  have hs : sizeLine = 16777216 := sizeLine_eq
  cases x with
  | non =>
    cases rx
    have e' : k = false := e
    subst e'
    exact truthy_none ⟨H, I, q⟩
  | bl b =>
    cases rx
    have e' : k = b := e
    subst e'
    exact wpAny_truthy_bool ⟨H, I, q⟩
  | int i =>
    obtain ⟨t, rfl⟩ := rx
    have e' : k = (i != 0) := e
    subst e'
    exact PySem.P.truthy_int ⟨H, I, q⟩
  | str y =>
    obtain ⟨t, rfl⟩ := rx
    obtain ⟨hy, e'⟩ : y.length ≤ sizeLine ∧ k = ((y.length : Int) != 0) := e
    subst e'
    exact PySem.P.truthy_str (by omega) ⟨H, I.tok _, q⟩
  | byt y =>
    obtain ⟨t, rfl⟩ := rx
    obtain ⟨hy, e'⟩ : y.size ≤ sizeLine ∧ k = ((y.size : Int) != 0) := e
    subst e'
    exact PySem.W.truthy_bytes (by omega) ⟨H, I.tok _, q⟩
  | ref p =>
    cases rx
    have e' : (∃ xs, SqL X.K H p xs ∧ k = !xs.isEmpty) ∨ (∃ xs, SqT X.K H p xs ∧ k = !xs.isEmpty) ∨ ∃ kvs, H p = some (.dK kvs) ∧ k = !kvs.isEmpty := e
    rcases e' with ⟨xs, hx, e'⟩ | ⟨xs, hx, e'⟩ | ⟨kvs, hx, e'⟩
    · subst e'
      obtain ⟨its, r, pl, hz⟩ := I.list hx
      have hlen := r.length
      exact wpAny_truthy_list pl.isList (by simp only [List.size_toArray]; omega) ⟨H, I.tok _, by rw [isEmpty_of r]; exact q⟩
    · subst e'
      obtain ⟨its, r, pl, hz⟩ := I.tuple hx
      have hlen := r.length
      exact truthy_tuple pl (by simp only [List.size_toArray]; omega) ⟨H, I.tok _, by rw [isEmpty_of r]; exact q⟩
    · subst e'
      obtain ⟨hz, hS, vs, r, m⟩ : kvs.length ≤ sizeLine ∧ (p == sysModules) = false ∧ ∃ vs, KV kvs vs ∧ s.heap.DictOf (mixKind X.prog X.w) p vs := I.hok p _ hx
      have hlen : kvs.length = vs.length := Paired.length r
      exact wpAny_truthy_dict hS m (by omega) ⟨H, I.tok _, by rw [isEmpty_kv r]; exact q⟩
  | _ => exact (show False from e).elim
theorem pt_truth (ha : PE X a ta) (he : ∀ whole, isTrue a X.env whole = (do let v ← whole; standAt a.pos; holding [v] (truthy v))) :
    PT X a (fun σ H Q => ta σ H fun x H' => ∃ k, TruV X.K x H' k ∧ Q k H') := by
  intro pins s σ H Q I h
  exact isTrue_plain (thn (ha pins s σ H _ I h) fun v s1 ⟨x, H1, I1, r1, q1⟩ => tru_ok pins s1 σ H1 x v Q I1 r1 q1) (he _)
theorem op_add_str : OpR X (binaryOp .Add) (fun x y H Q => ∃ i j, x = .str i ∧ y = .str j ∧ i.length + j.length ≤ sizeLine ∧ Q (.str (i ++ j)) H) := by
  intro pins s σ H x y v u Q I rx ry h
  obtain ⟨i, j, rfl, rfl, hz, q⟩ := h
  obtain ⟨t, rfl⟩ := rx
  obtain ⟨t', rfl⟩ := ry
  exact add_str (fun t' tk => ⟨.str (i ++ j), H, I.tok _, ⟨_, rfl⟩, q⟩) hz
theorem vals1 {x : V} {us : List Value} (r : Vals [x] us) : ∃ u, us = [u] ∧ RelV x u := by
  cases r with
  | cons r1 r2 => cases r2; exact ⟨_, rfl, r1⟩
noncomputable def LenV (K : PySem.W.Frag) (x : V) (H : Hp) (n : Nat) : Prop :=
  match x with
  | .str y => y.length ≤ sizeLine ∧ n = y.length
  | .byt y => y.size ≤ sizeLine ∧ n = y.size
  | .ref p => (∃ xs, SqL K H p xs ∧ n = xs.length) ∨ ∃ xs, SqT K H p xs ∧ n = xs.length
  | _ => False
theorem call_len : CallR X (.builtin "len") (fun xs H Q => ∃ x n, xs = [x] ∧ LenV X.K x H n ∧ Q (.int n) H) := by
  intro pins s σ H xs us Q I r h
  obtain ⟨x, n, rfl, e, q⟩ := h
  obtain ⟨u, rfl, rx⟩ := vals1 r
  have hl := line63
  have hs : sizeLine = 16777216 := sizeLine_eq
  cases x with
  | str y =>
    obtain ⟨t, rfl⟩ := rx
    obtain ⟨hy, e'⟩ : y.length ≤ sizeLine ∧ n = y.length := e
    subst e'
    exact len_str (by omega) ⟨.int _, H, I.tok _, ⟨_, rfl⟩, q⟩
  | byt y =>
    obtain ⟨t, rfl⟩ := rx
    obtain ⟨hy, e'⟩ : y.size ≤ sizeLine ∧ n = y.size := e
    subst e'
    exact PySem.W.len_bytes (by omega) ⟨.int _, H, I.tok _, ⟨_, rfl⟩, q⟩
  | ref p =>
    cases rx
    have e' : (∃ xs, SqL X.K H p xs ∧ n = xs.length) ∨ ∃ xs, SqT X.K H p xs ∧ n = xs.length := e
    rcases e' with ⟨xs, hx, e'⟩ | ⟨xs, hx, e'⟩
    · subst e'
      obtain ⟨its, r', pl, hz⟩ := I.list hx
      have hlen := r'.length
      exact Calls.call_len_list pl.isList (by simp only [List.size_toArray]; omega) ⟨.int xs.length, H, I.tok _, ⟨_, by simp only [List.size_toArray]; rw [hlen]⟩, q⟩
    · subst e'
      obtain ⟨its, r', pl, hz⟩ := I.tuple hx
      have hlen := r'.length
      exact len_tuple pl (by simp only [List.size_toArray]; omega) ⟨.int xs.length, H, I.tok _, ⟨_, by simp only [List.size_toArray]; rw [hlen]⟩, q⟩
  | _ => exact (show False from e).elim
end
end L2
namespace L2
open PySem PySem.Spec PyProof.Rows
structure ObjM (h : Heap) (x dx C : Addr) (mA : Str → Option Value) : Prop where
  obj : h.get? x = some (PySem.W.instObj C dx)
  ns : h.Ns1 dx mA
  ne : dx ≠ x
theorem lookIn_ns {h : Heap} {dx : Addr} {mA : Str → Option Value} (n : h.Ns1 dx mA) : ∃ od, h.get? dx = some od ∧ ∀ name, PySem.W.lookIn name od = some (mA name) := by
  obtain ⟨o, es, ep, ho, hd, hk, _, hm⟩ := n
  refine ⟨o, ho, fun name => ?_⟩
  have e := hm name
  unfold nsFind findBy at e
  rw [← Array.find?_toList] at e
  unfold PySem.W.lookIn
  rw [hd]
  dsimp only
  split
  · rename_i y q
    rw [q] at e
    exact congrArg some e
  · rename_i q
    rw [q] at e
    have a : es.toList.any (·.refKey) = false := by
      rw [List.any_eq_false]
      intro y hy
      obtain ⟨z, t, hkey⟩ := hk y (Array.mem_toList_iff.mp hy)
      simp [DictEntry.refKey, hkey]
    have a' : ¬ es.toList.any (·.refKey) = true := by rw [a]; exact Bool.false_ne_true
    rw [if_neg a']
    exact congrArg some e
theorem ObjM.look {h : Heap} {x dx C : Addr} {mA : Str → Option Value} (I : ObjM h x dx C mA) : ∃ od, PySem.W.InstAt h x (PySem.W.instObj C dx) C (some od) ∧ ∀ name, PySem.W.lookIn name od = some (mA name) :=
  let ⟨od, ho, hl⟩ := lookIn_ns I.ns
  ⟨od, ⟨I.obj, rfl, rfl, ho⟩, hl⟩
section
variable {prog : Program} {w : World} {A : Around} {E : Value → Shared → Prop} {s : Shared} {K : PySem.W.Frag} {x dx C f : Addr} {mA : Str → Option Value} {name : Str} {v : Value}
theorem get_map {expr : Bool} {Q : Value → Shared → Prop} (X : K.In s.heap) (I : ObjM s.heap x dx C mA) (hg : PySem.W.plainGet K C name = true) (hh : PySem.W.hasDictIn K C = true)
    (ha : PySem.W.findIn K (.ref C) name = some none) (hv : mA name = some v) (hv' : PySem.W.handedIn v = true) (h : Q v { s with toks := s.toks + 1 }) :
    wpAny (model prog w) A (getAttr (.ref x) name expr) Q E s := by
  obtain ⟨od, J, hl⟩ := I.look
  exact PySem.W.get_value X J (PySem.W.plainGet_of hg).1 (PySem.W.findObj_own hh ha rfl (by rw [hl, hv])) hv' h
theorem get_meth {pl : Sem Bool} {Q : Value × List Value → Shared → Prop} (X : K.In s.heap) (I : ObjM s.heap x dx C mA) (hg : PySem.W.plainGet K C name = true)
    (hf : PySem.W.findIn K (.ref C) name = some (some (.ref f))) (ht : PySem.W.isFn K (.ref f) = true) (hv : mA name = none) (h : Q (.ref f, [.ref x]) s) :
    wpAny (model prog w) A (getMethod (.ref x) name pl) Q E s := by
  obtain ⟨od, J, hl⟩ := I.look
  exact PySem.W.method_fn X J (PySem.W.plainGet_of hg).1 (PySem.W.plainGet_of hg).2 hf (beq_iff_eq.mp ht) (by show (PySem.W.lookIn name od).map (·.isSome) = some false; rw [hl, hv]; rfl) h
theorem set_map {ns : List Str} {Q : Unit → Shared → Prop} (X : K.In s.heap) (I : ObjM s.heap x dx C mA)
    (hs : PySem.W.findIn K (.ref C) "__setattr__" = some (some (.builtin "object.__setattr__"))) (hp : PySem.W.plainOver K C = true) (ht : PySem.W.takerIn K C name = some none) (hh : PySem.W.hasDictIn K C = true)
    (hw : PySem.Within mA ns) (hsz : ns.length ≤ sizeLine)
    (h : ∀ h', ObjM h' x dx C (fun y => if y = name then some v else mA y) → Heap.SameBut dx s.heap h' → Q () { s with heap := h', toks := s.toks + 2 }) :
    wpAny (model prog w) A (setAttr (.ref x) name v) Q E s := by
  obtain ⟨od, J, hl⟩ := I.look
  refine PySem.W.set_plain X J hs (PySem.W.osa_open (s := { s with toks := s.toks + 1 }) (r := none) X J hp ht fun b => ?_)
  obtain ⟨cd, hc, hd'⟩ := PySem.W.any_some hh
  have hx : s.heap.get? x = some ⟨.ref C, some dx, .plain, #[]⟩ := I.obj
  refine wpAny_bind (wpAny_pure (wpAny_bind (wpAny_bind (wpAny_loadPart hx (wpAny_bind (PySem.W.Looks.here (s := { s with toks := s.toks + 1 }) (PySem.W.looks_clsIn X hc) ?_))))))
  rw [hd']
  refine wpAny_pure (a := some dx) (wpAny_bind (wpAny_pure (wpAny_bind ?_)))
  refine wpAny_nsSet1 (s := { s with toks := s.toks + 1 }) I.ns fun h' hn2 hs2 => ?_
  obtain ⟨oD, esD, epD, hoD, hdD, hcD⟩ := hn2.count (PySem.Within.cons name v hw)
  refine wpAny_bind (wpAny_lookBehind hoD (by rw [hdD]; exact pastItsLine_dict (Nat.le_trans hcD (by rw [List.length_cons]; omega))) ?_)
  exact wpAny_pure (h _ ⟨(hs2.2 _ (Ne.symm I.ne)).trans I.obj, hn2, I.ne⟩ hs2)
theorem make_map {R : Result → Shared → Prop} {vs : List Value} {kw : List (Str × Value)} (X : K.In s.heap) (hm : PySem.W.makesIn K C = true)
    (hi : PySem.W.findIn K (.ref C) "__init__" = some (some (.ref f))) (hf : PySem.W.typeIn K (.ref f) = some (.type "function"))
    (h : codeAny (model prog w) (A.under (.builtin "type.__call__" ⟨.ref C :: vs, kw⟩)) (.call (.ref f) ⟨.ref (s.heap.objs.size + 1) :: vs, kw⟩) (PySem.W.InitBack (s.heap.objs.size + 1) R)
      { s with heap := (s.heap.push PySem.W.emptyDict).push (PySem.W.instObj C s.heap.objs.size) }) :
    codeAny (model prog w) A (.call (.ref C) ⟨vs, kw⟩) R s := by
  obtain ⟨hh, g, d, t, os⟩ := s
  exact PySem.W.make_core (PySem.W.makes_of X hm) (PySem.W.looks_findIn X hi) (fun self => PySem.W.bind_fn X self hf) (.inl rfl) h
end
noncomputable def putF (f : Str) (v : V) : List (Str × V) → List (Str × V)
  | [] => [(f, v)]
  | (g, x) :: r => if g = f then (g, v) :: r else (g, x) :: putF f v r
theorem lookup_putF (f g : Str) (v : V) : ∀ fs : List (Str × V), (putF f v fs).lookup g = if g = f then some v else fs.lookup g
  | [] => by
    show List.lookup g [(f, v)] = _
    by_cases h : g = f
    · have hb : (g == f) = true := beq_iff_eq.mpr h
      simp only [List.lookup, hb, if_pos h]
    · have hb : (g == f) = false := beq_eq_false_iff_ne.mpr h
      simp only [List.lookup, hb, if_neg h]
  | (k, x) :: r => by
    have ih := lookup_putF f g v r
    rw [show putF f v ((k, x) :: r) = (if k = f then (k, v) :: r else (k, x) :: putF f v r) from rfl]
    by_cases hk : k = f
    · rw [if_pos hk]
      by_cases h : g = k
      · have hb : (g == k) = true := beq_iff_eq.mpr h
        simp only [List.lookup, hb, if_pos (h.trans hk)]
      · have hb : (g == k) = false := beq_eq_false_iff_ne.mpr h
        simp only [List.lookup, hb, if_neg (fun e : g = f => h (e.trans hk.symm))]
    · rw [if_neg hk]
      by_cases h : g = k
      · have hb : (g == k) = true := beq_iff_eq.mpr h
        simp only [List.lookup, hb, if_neg (fun e : g = f => hk (h.symm.trans e))]
      · have hb : (g == k) = false := beq_eq_false_iff_ne.mpr h
        simp only [List.lookup, hb]
        exact ih
theorem keys_putF (f : Str) (v : V) : ∀ fs : List (Str × V), f ∈ (putF f v fs).map (·.1) ∧ ∀ g, g ∈ fs.map (·.1) → g ∈ (putF f v fs).map (·.1)
  | [] => ⟨by simp [putF], fun g h => by simp at h⟩
  | (k, x) :: r => by
    obtain ⟨i1, i2⟩ := keys_putF f v r
    rw [show putF f v ((k, x) :: r) = (if k = f then (k, v) :: r else (k, x) :: putF f v r) from rfl]
    by_cases hk : k = f
    · rw [if_pos hk]
      subst hk
      exact ⟨by simp, fun g h => by simpa using h⟩
    · rw [if_neg hk]
      refine ⟨?_, fun g h => ?_⟩
      · rw [List.map_cons]
        exact List.mem_cons_of_mem _ i1
      · rw [List.map_cons] at h ⊢
        rcases List.mem_cons.mp h with e | e
        · exact List.mem_cons.mpr (.inl e)
        · exact List.mem_cons_of_mem _ (i2 g e)
theorem length_putF (f : Str) (v : V) : ∀ fs : List (Str × V), (putF f v fs).length ≤ fs.length + 1
  | [] => by simp [putF]
  | (k, x) :: r => by
    have ih := length_putF f v r
    rw [show putF f v ((k, x) :: r) = (if k = f then (k, v) :: r else (k, x) :: putF f v r) from rfl]
    by_cases hk : k = f
    · rw [if_pos hk, List.length_cons, List.length_cons]; omega
    · rw [if_neg hk, List.length_cons, List.length_cons]; omega
theorem RelO.some_of {v : V} {o : Option Value} (r : RelO (some v) o) : ∃ u, o = some u ∧ RelV v u := by
  cases o with
  | none => exact (show False from r).elim
  | some u => exact ⟨u, rfl, r⟩
theorem RelO.none_of {o : Option Value} (r : RelO none o) : o = none := by
  cases o with
  | none => rfl
  | some u => exact (show False from r).elim
theorem handed_of {v : V} {u : Value} (r : RelV v u) : PySem.W.handedIn u = true := by
  cases v with
  | non => cases (show u = Value.none from r); rfl
  | bl b => cases (show u = Value.bool b from r); rfl
  | int i => obtain ⟨t, e⟩ := (show ∃ t, u = Value.int i t from r); cases e; rfl
  | str x => obtain ⟨t, e⟩ := (show ∃ t, u = Value.str x t from r); cases e; rfl
  | byt b => obtain ⟨t, e⟩ := (show ∃ t, u = Value.bytes b t from r); cases e; rfl
  | flt b => obtain ⟨t, e⟩ := (show ∃ t, u = Value.float b t from r); cases e; rfl
  | ref a => cases (show u = Value.ref a from r); rfl
  | ty n => cases (show u = Value.type n from r); rfl
section
variable {P : Program} {w : World} {H H' : Hp} {h h' : Heap} {a C dx : Addr} {fs fs' : List (Str × V)}
theorem ins_get (hok : HOk P w H h) (e : H a = some (.ins C dx fs)) : ∃ mA, ObjM h a dx C mA ∧ (∀ f, RelO (fs.lookup f) (mA f)) ∧ PySem.Within mA (fs.map (·.1)) ∧ fs.length ≤ 1000 ∧ H dx = some (.own a) := by
  obtain ⟨d, z, ne, ob, mA, n, r, q⟩ := (show ObjOk P w H h a (.ins C dx fs) from hok a _ e)
  exact ⟨mA, ⟨ob, n, ne⟩, r, q, z, d⟩
end
structure Cls (K : PySem.W.Frag) (C : Addr) : Prop where
  pg : PySem.W.plainGet K C Str.empty = true
  hd : PySem.W.hasDictIn K C = true
  po : PySem.W.plainOver K C = true
  sa : PySem.W.findIn K (.ref C) "__setattr__" = some (some (.builtin "object.__setattr__"))
theorem Cls.get {K : PySem.W.Frag} {C : Addr} (c : Cls K C) (f : Str) : PySem.W.plainGet K C f = true := c.pg
noncomputable def NoAttr (K : PySem.W.Frag) (C : Addr) (f : Str) : Prop := PySem.W.findIn K (.ref C) f = some none
theorem NoAttr.taker {K : PySem.W.Frag} {C : Addr} {f : Str} (n : NoAttr K C f) : PySem.W.takerIn K C f = some none := by
  unfold PySem.W.takerIn
  rw [show PySem.W.findIn K (.ref C) f = some none from n]
  rfl
structure Con (K : PySem.W.Frag) (C : Addr) (f : Str) (v : V) (u : Value) : Prop where
  at_ : PySem.W.findIn K (.ref C) f = some (some u)
  rel : RelV v u
  get : PySem.W.specialIn K u "__get__" = some none
  cp : PySem.W.copiedNames.contains f = false
structure Meth (K : PySem.W.Frag) (C : Addr) (m : Str) (f : Addr) : Prop where
  at_ : PySem.W.findIn K (.ref C) m = some (some (.ref f))
  fn : PySem.W.isFn K (.ref f) = true
  kp : PySem.W.keepIn K (.ref f) = true
section
variable {X : Cx} {pins : List (Addr × Obj)} {σ : St} {H : Hp} {s : Shared} {a C dx : Addr} {fs : List (Str × V)} {f : Str} {v : V} {A : Around} {E : Value → Shared → Prop}
theorem getattr_ok {b : Bool} {Q : Value → Shared → Prop} (I : Inv X pins σ H s) (e : H a = some (.ins C dx fs)) (c : Cls X.K C) (n : NoAttr X.K C f) (l : fs.lookup f = some v)
    (h : ∀ u s', Inv X pins σ H s' → RelV v u → Q u s') : wpAny (model X.prog X.w) A (getAttr (.ref a) f b) Q E s := by
  obtain ⟨mA, O, r, _, _, _⟩ := ins_get I.hok e
  obtain ⟨u, hu, ru⟩ := RelO.some_of (v := v) (o := mA f) (by rw [← l]; exact r f)
  exact get_map I.kIn O (c.get f) c.hd n hu (handed_of ru) (h u _ (I.tok _) ru)
theorem getmeth_ok {m : Str} {g : Addr} {pl : Sem Bool} {Q : Value × List Value → Shared → Prop} (I : Inv X pins σ H s) (e : H a = some (.ins C dx fs)) (c : Cls X.K C) (k : Meth X.K C m g) (l : fs.lookup m = none)
    (h : Q (.ref g, [.ref a]) s) : wpAny (model X.prog X.w) A (getMethod (.ref a) m pl) Q E s := by
  obtain ⟨mA, O, r, _, _, _⟩ := ins_get I.hok e
  have hn : mA m = none := RelO.none_of (by rw [← l]; exact r m)
  exact get_meth I.kIn O (c.get m) k.at_ k.fn hn h
theorem setattr_ok {y : V} {u : Value} {Q : Unit → Shared → Prop} (I : Inv X pins σ H s) (e : H a = some (.ins C dx fs)) (c : Cls X.K C) (n : NoAttr X.K C f) (hl : fs.length < 1000) (ry : RelV y u)
    (h : ∀ s', Inv X pins σ (upd H a (.ins C dx (putF f y fs))) s' → Q () s') : wpAny (model X.prog X.w) A (setAttr (.ref a) f u) Q E s := by
  obtain ⟨mA, O, r, wi, _, ho⟩ := ins_get I.hok e
  have hz : (fs.map (·.1)).length ≤ sizeLine := by rw [List.length_map, sizeLine_eq]; omega
  refine set_map I.kIn O c.sa c.po n.taker c.hd wi hz fun h' O' sb => h _ ?_
  have hd : ∃ o, h'.get? dx = some o := let ⟨o, _, _, e', _⟩ := O'.ns; ⟨o, e'⟩
  refine I.write (x := a) (e := dx) (by rw [e]; exact True.intro) (.inr ho) (fun b q hb z => (sb.2 b hb).trans z) hd ?_
  refine ⟨by rw [upd_ne O.ne]; exact ho, ?_, O.ne, O'.obj, _, O'.ns, fun g => ?_, fun g hg => ?_⟩
  · have := length_putF f y fs; omega
  · show RelO ((putF f y fs).lookup g) (if g = f then some u else mA g)
    rw [lookup_putF]
    by_cases q : g = f
    · rw [if_pos q, if_pos q]; exact ry
    · rw [if_neg q, if_neg q]; exact r g
  · by_cases q : g = f
    · rw [q]; exact (keys_putF f y fs).1
    · refine (keys_putF f y fs).2 g (wi g fun z => hg ?_)
      show (if g = f then some u else mA g) = none
      rw [if_neg q]; exact z
theorem Inv.made (I : Inv X pins σ H s) : Inv X pins σ (upd (upd H s.heap.objs.size (.own (s.heap.objs.size + 1))) (s.heap.objs.size + 1) (.ins C s.heap.objs.size []))
    { s with heap := (s.heap.push PySem.W.emptyDict).push (PySem.W.instObj C s.heap.objs.size) } := by
  have e1 : (s.heap.push PySem.W.emptyDict).get? s.heap.objs.size = some PySem.W.emptyDict := Heap.get?_push_size s.heap rfl
  have e2 : ((s.heap.push PySem.W.emptyDict).push (PySem.W.instObj C s.heap.objs.size)).get? (s.heap.objs.size + 1) = some (PySem.W.instObj C s.heap.objs.size) := by
    have := Heap.get?_push_size (s.heap.push PySem.W.emptyDict) (o := PySem.W.instObj C s.heap.objs.size) rfl
    rwa [Heap.size_push] at this
  have e3 : (s.heap.push PySem.W.emptyDict).Ns s.heap.objs.size (fun _ => none) := ⟨PySem.W.emptyDict, #[], _, e1, rfl, (fun e he => absurd he (by simp)), fun _ => rfl⟩
  have I1 := I.laid (a := s.heap.objs.size) (o := .own (s.heap.objs.size + 1)) (h' := s.heap.push PySem.W.emptyDict) (t' := s.toks) (fun b u q => Heap.get?_push_of_some _ q) (Nat.le_refl _) ⟨_, e1⟩
  refine I1.laid (a := s.heap.objs.size + 1) (o := .ins C s.heap.objs.size []) (t' := s.toks) (fun b u q => Heap.get?_push_of_some _ q) (Nat.le_of_eq (Heap.size_push _ _)) ?_
  have ne : s.heap.objs.size ≠ s.heap.objs.size + 1 := Nat.ne_of_lt (Nat.lt_succ_self _)
  refine ⟨by rw [upd_ne ne, upd_same], Nat.zero_le _, ne, e2, fun _ => none, (Heap.Ns1.of_empty e3).at fun o q => Heap.get?_push_of_some _ q, fun _ => True.intro, fun y hy => absurd rfl hy⟩
theorem attr_of {prog : Program} {w : World} {env : Env} {e : Expr} {f : Str} {pos : Pos} {s : Shared} {Q : Value → Shared → Prop} (hb : attributeBase e f env (eval e env) = eval e env)
    (h : wpAny (model prog w) A (eval e env) (fun o s₁ => wpAny (model prog w) A (getAttr o f true) Q E s₁) E s) : wpAny (model prog w) A (eval (.Attribute e f pos) env) Q E s :=
  Attribute_any_ h (by rw [arm_eval_Attribute, hb])
end
noncomputable def tFld (K : PySem.W.Frag) (ta : TE) (f : Str) : TE := fun σ H Q => ta σ H fun x H1 => ∃ a C dx fs v, x = .ref a ∧ H1 a = some (.ins C dx fs) ∧ Cls K C ∧ NoAttr K C f ∧ fs.lookup f = some v ∧ Q v H1
noncomputable def sFld (K : PySem.W.Frag) (ta tv : TE) (f : Str) : TS := fun D σ H => tv σ H fun y H1 => ta σ H1 fun x H2 => ∃ a C dx fs, x = .ref a ∧ H2 a = some (.ins C dx fs) ∧ Cls K C ∧ NoAttr K C f ∧ fs.length < 1000 ∧
  D.nx σ (upd H2 a (.ins C dx (putF f y fs)))
section
variable {X : Cx} {o e value : Expr} {f : Str} {pos pos' tpos : Pos} {ta tv : TE}
theorem pe_fld (he : PE X e ta) (hb : attributeBase e f X.env (eval e X.env) = eval e X.env) : PE X (.Attribute e f pos) (tFld X.K ta f) := by
  intro pins s σ H Q I h
  refine attr_of hb (thn (he pins s σ H _ I h) fun u s1 hz21 => ?_)
  obtain ⟨x, H1, I1, rx, a, C, dx, fs, v, ex, ea, c, n, l, q⟩ := hz21
  subst ex
  obtain rfl : u = Value.ref a := rx
  exact getattr_ok I1 ea c n l fun u' s2 I2 ru => ⟨v, H1, I2, ru, q⟩
theorem ps_fld (ha : PE X o ta) (hv : PE X value tv) (hs : swapsWith value (some (.Attribute o f pos')) pos.line X.env = pure false) : PS X (.Assign [.Attribute o f pos'] value pos) (sFld X.K ta tv f) := by
  intro pins s σ H D I h
  refine plainObj_wpAny_Assign_Attribute (thn (hv pins s σ H _ I h) fun u s1 hz22 => ?_) hs
  obtain ⟨y, H1, I1, ry, q⟩ := hz22
  refine thn (ha pins s1 σ H1 _ I1 q) fun ov s2 hz23 => ?_
  obtain ⟨x, H2, I2, rx, a, C, dx, fs, ex, ea, c, n, l, q2⟩ := hz23
  subst ex
  obtain rfl : ov = Value.ref a := rx
  exact setattr_ok I2 ea c n l ry fun s3 I3 => ⟨σ, _, I3, q2⟩
end
section
variable {X : Cx} {pins : List (Addr × Obj)} {σ : St} {H : Hp} {s : Shared} {A : Around} {E : Value → Shared → Prop} {Q : Value → Shared → Prop} {c : Value} {b : Bool}
inductive TyOf (K : PySem.W.Frag) (H : Hp) : V → Value → Prop where
  | non : TyOf K H .non (.type "NoneType")
  | bl (x : Bool) : TyOf K H (.bl x) (.type "bool")
  | int (i : Int) : TyOf K H (.int i) (.type "int")
  | str (x : Str) : TyOf K H (.str x) (.type "str")
  | flt (x : UInt64) : TyOf K H (.flt x) (.type "float")
  | lst {a : Addr} {xs : List V} (e : H a = some (.lst xs)) : TyOf K H (.ref a) (.type "list")
  | frz {a : Addr} {o : Obj} {xs : List V} (e : H a = some (.frz o (.lst xs))) : TyOf K H (.ref a) (.type "list")
  | tup {a : Addr} {xs : List V} (e : H a = some (.tup xs)) : TyOf K H (.ref a) (.type "tuple")
  | dK {a : Addr} {kvs : List (Key × V)} (e : H a = some (.dK kvs)) : TyOf K H (.ref a) (.type "dict")
  | dT {a : Addr} {kvs : List (List Key × V)} (e : H a = some (.dT kvs)) : TyOf K H (.ref a) (.type "dict")
  | ins {a C dx : Addr} {fs : List (Str × V)} (e : H a = some (.ins C dx fs)) (cl : Cls K C) (ha : PySem.W.findIn K (.ref C) "__class__" = some (some (.builtin "object.__class__")))
      (hn : PySem.W.specialIn K (.builtin "object.__class__") "__get__" = some (some (.builtin "getset_descriptor.__get__"))) (htk : PySem.W.takesIn K (.builtin "object.__class__") = some true)
      (hm : PySem.W.mroIn K C (.type "object") = some true) : TyOf K H (.ref a) (.ref C)
theorem isinst_ok {x : V} {u t : Value} (I : Inv X pins σ H s) (rx : RelV x u) (ty : TyOf X.K H x t) (e : PySem.W.kitOne X.K t c = some b) (h : ∀ tk, Q (.bool b) { s with toks := tk }) :
    wpAny (model X.prog X.w) A (call (.builtin "isinstance") [u, c]) Q E s := by
  cases ty with
  | non => cases (show u = Value.none from rx); exact PySem.W.kia_one PySem.W.kitx_none I.kIn True.intro e (fun z => nomatch z) h
  | bl y => cases (show u = Value.bool y from rx); exact PySem.W.kia_one PySem.W.kitx_bool I.kIn True.intro e (fun z => nomatch z) h
  | int i => obtain ⟨t, q⟩ := (show ∃ t, u = Value.int i t from rx); cases q; exact PySem.W.kia_one PySem.W.kitx_int I.kIn True.intro e (fun z => nomatch z) h
  | str y => obtain ⟨t, q⟩ := (show ∃ t, u = Value.str y t from rx); cases q; exact PySem.W.kia_one PySem.W.kitx_str I.kIn True.intro e (fun z => nomatch z) h
  | flt y => obtain ⟨t, q⟩ := (show ∃ t, u = Value.float y t from rx); cases q; exact PySem.W.kia_one PySem.W.kitx_float I.kIn True.intro e (fun z => nomatch z) h
  | @lst a xs ea =>
    cases (show u = Value.ref a from rx)
    obtain ⟨_, _, n, _, h1⟩ := (show ObjOk X.prog X.w H s.heap a (.lst xs) from I.hok a _ ea)
    exact PySem.W.kia_one PySem.W.kitx_list I.kIn ⟨_, h1, rfl⟩ e (fun z => nomatch z) h
  | @frz a ob xs ea =>
    cases (show u = Value.ref a from rx)
    obtain ⟨_, _, _, n, _, h1⟩ := (show ObjOk X.prog X.w H s.heap a (.frz ob (.lst xs)) from I.hok a _ ea)
    exact PySem.W.kia_one PySem.W.kitx_list I.kIn ⟨_, h1, rfl⟩ e (fun z => nomatch z) h
  | @tup a xs ea =>
    cases (show u = Value.ref a from rx)
    obtain ⟨_, _, _, p⟩ := (show ObjOk X.prog X.w H s.heap a (.tup xs) from I.hok a _ ea)
    obtain ⟨o, h1, h2, _⟩ := p
    exact PySem.W.kia_one PySem.W.kitx_tuple I.kIn ⟨o, h1, h2⟩ e (fun z => nomatch z) h
  | @dK a kvs ea =>
    cases (show u = Value.ref a from rx)
    obtain ⟨_, _, vs, _, p⟩ := (show ObjOk X.prog X.w H s.heap a (.dK kvs) from I.hok a _ ea)
    obtain ⟨o, es, ep, h1, h2, _⟩ := p
    exact PySem.W.kia_one PySem.W.kitx_dict I.kIn ⟨o, h1, h2.1⟩ e (fun z => nomatch z) h
  | @dT a kvs ea =>
    cases (show u = Value.ref a from rx)
    obtain ⟨_, _, xs, _, o, es, ep, h1, h2, _⟩ := (show ObjOk X.prog X.w H s.heap a (.dT kvs) from I.hok a _ ea)
    exact PySem.W.kia_one PySem.W.kitx_dict I.kIn ⟨o, h1, h2.1⟩ e (fun z => nomatch z) h
  | @ins a C dx fs ea cl ha hn htk hm =>
    cases (show u = Value.ref a from rx)
    obtain ⟨mA, O, _⟩ := ins_get I.hok ea
    obtain ⟨od, J, _⟩ := O.look
    exact PySem.W.kia_one (PySem.W.kitx_own (cl.get _) cl.hd ha hn htk hm) I.kIn J e (fun z => nomatch z) h
end
end L2
namespace L2
open PySem PySem.Spec PyProof.Rows
structure Room (k : Nat) (A : Around) : Prop where
  hd : A.handled = none
  dp : A.depth + 3 * k + 5 < recursionLimit
  un : A.units + 16 * k + 200 < cLine
theorem Room.mono {j k : Nat} {A : Around} (r : Room k A) (h : j ≤ k) : Room j A := ⟨r.hd, by have := r.dp; omega, by have := r.un; omega⟩
theorem Room.deeper {k : Nat} {A : Around} (r : Room (k + 1) A) (env : Env) : Room k (A.deeper env) :=
  ⟨r.hd, by have := r.dp; show A.depth + 1 + 3 * k + 5 < _; omega, by have := r.un; show A.units + 3 + 16 * k + 200 < _; omega⟩
theorem make_depth {A : Around} {C : Addr} {us : List Value} {kw : List (Str × Value)} : (A.under (.builtin "type.__call__" ⟨.ref C :: us, kw⟩)).depth = A.depth + 1 := by
  first | rfl | simp [Around.under, Code.weight, Code.isCreation, Code.isGuard, Code.isCaller, Code.frames, Code.isFrame, guardIds]
theorem make_units {A : Around} {C : Addr} {us : List Value} {kw : List (Str × Value)} : (A.under (.builtin "type.__call__" ⟨.ref C :: us, kw⟩)).units = A.units + 1 := by
  first | rfl | simp [Around.under, Code.cUnits, Code.frames, Code.isFrame]
theorem Room.make {k : Nat} {A : Around} (r : Room (k + 1) A) (C : Addr) (us : List Value) (kw : List (Str × Value)) : Room k (A.under (.builtin "type.__call__" ⟨.ref C :: us, kw⟩)) :=
  ⟨r.hd, by have := r.dp; rw [make_depth]; omega, by have := r.un; rw [make_units]; omega⟩
theorem Room.depth {k : Nat} {A : Around} (r : Room k A) : A.depth < recursionLimit := by have := r.dp; omega
theorem Room.units {k : Nat} {A : Around} (r : Room k A) : A.units + 64 < cLine := by have := r.un; omega
noncomputable def tNil : TA := fun _ H Q => Q [] H
noncomputable def tCons (ta : TE) (tr : TA) : TA := fun σ H Q => ta σ H fun x H1 => tr σ H1 fun xs H2 => Q (x :: xs) H2
section
variable {X : Cx} {e : Expr} {es : List Expr} {te : TE} {t : TA} {pos : Pos}
theorem pa_nil : PA X [] tNil := fun _ _ _ _ H Q I h => Calls.spliced_nil ⟨[], H, I, .nil, h⟩
theorem pa_cons (ha : PE X e te) (hr : PA X es t) (hs : starEach (e :: es) X.env = (false, eval e X.env) :: starEach es X.env := by rfl) : PA X (e :: es) (tCons te t) := by
  intro pos pins s σ H Q I h
  rw [hs]
  show wpAny _ _ (spliced ((false, eval e X.env) :: backTo pos (starEach es X.env))) _ _ s
  refine Calls.spliced_cons (thn (ha pins s σ H _ I h) fun u s1 hz24 => ?_)
  obtain ⟨x, H1, I1, r1, q1⟩ := hz24
  exact thn (hr pos pins s1 σ H1 _ I1 q1) fun us s2 ⟨xs, H2, I2, r2, q2⟩ => ⟨x :: xs, H2, I2, .cons r1 r2, q2⟩
noncomputable def tTup (t : TA) : TE := fun σ H Q => t σ H fun xs H1 => xs.length ≤ sizeLine ∧ ∀ p, H1 p = none → Q (.ref p) (upd H1 p (.tup xs))
noncomputable def tLst (t : TA) : TE := fun σ H Q => t σ H fun xs H1 => xs.length ≤ sizeLine ∧ ∀ p, H1 p = none → Q (.ref p) (upd H1 p (.lst xs))
theorem pe_tup {x1} (h : PA X es t) : PE X (.Tuple es x1 pos) (tTup t) := by
  intro pins s σ H Q I hq
  refine wpAny_Tuple_spliced (thn (h pos pins s σ H _ I hq) fun us s1 hz25 => ?_)
  obtain ⟨xs, H1, I1, r, z, q⟩ := hz25
  refine ⟨by rw [← r.length]; exact z, ?_⟩
  have hf : H1 s1.heap.objs.size = none := I1.hok.fresh (Nat.le_refl _)
  refine ⟨.ref s1.heap.objs.size, upd H1 s1.heap.objs.size (.tup xs), I1.laid (t' := s1.toks) (fun b u e => Heap.get?_push_of_some _ e) (Nat.le_refl _) ?_, rfl, q _ hf⟩
  exact ⟨z, us, r, ⟨_, Heap.get?_push_size _ rfl, rfl, _, rfl⟩⟩
theorem pe_lst (h : PA X es t) : PE X (.List es pos) (tLst t) := by
  intro pins s σ H Q I hq
  refine wpAny_List_spliced (thn (h pos pins s σ H _ I hq) fun us s1 hz26 => ?_)
  obtain ⟨xs, H1, I1, r, z, q⟩ := hz26
  refine ⟨by rw [← r.length]; exact z, ?_⟩
  have hf : H1 s1.heap.objs.size = none := I1.hok.fresh (Nat.le_refl _)
  refine ⟨.ref s1.heap.objs.size, upd H1 s1.heap.objs.size (.lst xs), I1.laid (t' := s1.toks) (fun b u e => Heap.get?_push_of_some _ e) (Nat.le_refl _) ?_, rfl, q _ hf⟩
  exact ⟨z, us, 0, r, Heap.get?_push_size _ rfl⟩
end
noncomputable abbrev Sp := List V → Hp → VK → XK → Prop
noncomputable abbrev CXT := List Env → Hp → Shared → XK → Value → Shared → Prop
structure Env0 (P : Program) (w : World) (K : PySem.W.Frag) (mg : Str → Option Value) (base : Heap) (A : Around) (outer : List Env) (s : Shared) (H : Hp) : Prop where
  frames : A.frames = some outer
  mod : Mod K mg base
  bs : ∀ b o, base.get? b = some o → s.heap.get? b = some o ∧ H b = none
  bsz : base.objs.size ≤ s.heap.objs.size
  funs : s.heap.FunFrames base outer
  frf : ∀ b ∈ frs outer, H b = none
  hok : HOk P w H s.heap
  bare : AllBare s.gens
noncomputable def CE (outer : List Env) (P : Program) (w : World) (H : Hp) (s : Shared) (Q : VK) (u : Value) (s' : Shared) : Prop :=
  ∃ v H', s'.os = s.os ∧ AllBare s'.gens ∧ Un (frs outer) [] H H' s.heap s'.heap ∧ HOk P w H' s'.heap ∧ RelV v u ∧ Q v H'
noncomputable def CR (CX : CXT) (outer : List Env) (P : Program) (w : World) (H : Hp) (s : Shared) (Q : VK) (E : XK) (r : Result) (s' : Shared) : Prop :=
  match r with
  | .ok (.ret u) => CE outer P w H s Q u s'
  | .ok _ => False
  | .error e => CX outer H s E e s'
structure FnOk (P : Program) (w : World) (K : PySem.W.Frag) (mg : Str → Option Value) (base : Heap) (CX : CXT) (k : Nat) (f : Addr) (fd : FuncData) (ps : List Str) (sp : Sp) : Prop where
  len : ∀ vs H Q E, sp vs H Q E → vs.length = ps.length
  run : ∀ (A : Around) (outer : List Env) (s : Shared) (H : Hp) (args : Args) (us : List Value) (vs : List V) (Q : VK) (E : XK), Room k A → Env0 P w K mg base A outer s H → BindsTo s fd args (ps.zip us) → Vals vs us → sp vs H Q E →
    codeAny (model P w) A (.call (.ref f) args) (CR CX outer P w H s Q E) s
theorem Env0.make {P : Program} {w : World} {K : PySem.W.Frag} {mg : Str → Option Value} {base : Heap} {A : Around} {outer : List Env} {s : Shared} {H : Hp} (e : Env0 P w K mg base A outer s H) (C : Addr) (us : List Value) (kw : List (Str × Value)) :
    Env0 P w K mg base (A.under (.builtin "type.__call__" ⟨.ref C :: us, kw⟩)) outer s H := ⟨by first | exact e.frames | (simpa [Around.under, Code.envs, Code.isFrame, pushEnvs] using e.frames), e.mod, e.bs, e.bsz, e.funs, e.frf, e.hok, e.bare⟩
section
variable {X : Cx} {pins : List (Addr × Obj)} {σ : St} {H : Hp} {s s' : Shared}
theorem Inv.env0 (I : Inv X pins σ H s) : Env0 X.prog X.w X.K X.mg X.base X.A X.stack s H :=
  ⟨I.ok.frames, I.ok.mod, I.bs, Nat.le_trans I.ok.bsz I.sz, I.stack, I.stkFree, I.hok, I.bare⟩
theorem Inv.after {Q : VK} {u : Value} (I : Inv X pins σ H s) (h : CE X.stack X.prog X.w H s Q u s') : EP X pins σ Q u s' := by
  obtain ⟨v, H', os, bare, un, hok, r, q⟩ := h
  obtain ⟨hh, g, d, t, os'⟩ := s'
  obtain rfl : os' = s.os := os
  exact ⟨v, H', I.call (h' := hh) (g' := g) (d' := d) (t' := t) (ch := []) un hok bare (fun b z => absurd z (by simp)), r, q⟩
end
noncomputable def tCall (sp : Sp) (dvs : List V) (E : XK) (t : TA) : TE := fun σ H Q => t σ H fun vs H1 => sp (vs ++ dvs) H1 Q E
noncomputable def tMeth (C : Addr) (m : Str) (sp : Sp) (dvs : List V) (E : XK) (ta : TE) (t : TA) : TE := fun σ H Q => ta σ H fun x H1 => ∃ a dx fs, x = .ref a ∧ H1 a = some (.ins C dx fs) ∧ fs.lookup m = none ∧
  t σ H1 fun vs H2 => sp (x :: (vs ++ dvs)) H2 Q E
noncomputable def tMake (C : Addr) (sp : Sp) (dvs : List V) (E : XK) (t : TA) : TE := fun σ H Q => t σ H fun vs H1 => ∀ x dx, H1 x = none → H1 dx = none → dx ≠ x →
  sp (.ref x :: (vs ++ dvs)) (upd (upd H1 dx (.own x)) x (.ins C dx [])) (fun v H2 => v = .non ∧ Q (.ref x) H2) E
noncomputable def Binds (K : PySem.W.Frag) (fd : FuncData) (ps : List Str) (ds : List Value) : Prop :=
  ∀ (s : Shared) (us : List Value), K.In s.heap → (us ++ ds).length = ps.length → BindsTo s fd ⟨us, []⟩ (ps.zip (us ++ ds))
theorem Binds.all {K : PySem.W.Frag} {fd : FuncData} {ps : List Str} (h : ∀ us : List Value, us.length = ps.length → bindArgs fd ⟨us, []⟩ = pure (ps.zip us)) : Binds K fd ps [] := fun s us _ hl => by
  rw [List.append_nil] at hl ⊢
  exact .of_eq (h us hl)
noncomputable def Passes (CX : CXT) (X : Cx) (E : XK) : Prop := ∀ (pins : List (Addr × Obj)) (σ : St) (H : Hp) (s : Shared) (e : Value) (s' : Shared), Inv X pins σ H s → CX X.stack H s E e s' → X.xe e s'
section
variable {X : Cx} {CX : CXT} {k : Nat} {f C : Addr} {fd : FuncData} {ps : List Str} {sp : Sp} {dvs : List V} {ds : List Value} {E : XK} {x m : Str} {p pos apos : Pos} {e o : Expr} {es : List Expr} {ta : TE} {t : TA}
theorem run_fn {pins : List (Addr × Obj)} {σ : St} {H : Hp} {s : Shared} {Q : VK} {us : List Value} {vs : List V} (F : FnOk X.prog X.w X.K X.mg X.base CX k f fd ps sp) (hr : Room k X.A) (hb : Binds X.K fd ps ds) (hd : Vals dvs ds) (hx : Passes CX X E)
    (I : Inv X pins σ H s) (r : Vals vs us) (h : sp (vs ++ dvs) H Q E) : wpAny (model X.prog X.w) X.A (call (.ref f) us) (EP X pins σ Q) X.xe s := by
  have r2 : Vals (vs ++ dvs) (us ++ ds) := r.append hd
  have hl : (us ++ ds).length = ps.length := by rw [← r2.length]; exact F.len _ _ _ _ h
  refine wpAny_call (codeAny_mono (F.run X.A X.stack s H ⟨us, []⟩ (us ++ ds) (vs ++ dvs) Q E hr I.env0 (hb s us I.kIn hl) r2 h) fun r s' hq => ?_)
  cases r with
  | error e => exact hx pins σ H s e s' I hq
  | ok fl =>
    cases fl with
    | ret u => exact I.after hq
    | next => exact False.elim hq
    | brk => exact False.elim hq
    | cont => exact False.elim hq
theorem pe_call (F : FnOk X.prog X.w X.K X.mg X.base CX k f fd ps sp) (hr : Room k X.A) (hg : Gl X x) (hm : X.mg x = some (.ref f)) (hk : PySem.W.keepIn X.K (.ref f) = true) (hb : Binds X.K fd ps ds) (hd : Vals dvs ds) (hx : Passes CX X E)
    (ha : PA X (e :: es) t) (hdb : (x == ("__debug__" : Str)) = false := by decide) (he : starEach (e :: es) X.env = (false, eval e X.env) :: starEach es X.env := by rfl) (hpl : (backTo pos (starEach es X.env)).any (·.1) = false := by rfl) :
    PE X (.Call (.Name x p) (e :: es) [] pos) (tCall sp dvs E t) := by
  intro pins s σ H Q I h
  refine wpAny_Call_Name_kw (ld_glob I hg hm ?_ hdb)
  refine PySem.W.callWith_K (h₀ := X.base) I.ok.mod.kin hk (thn (ha pos pins s σ H _ I h) fun us s1 hz27 => ?_) he hpl
  obtain ⟨vs, H1, I1, r, q⟩ := hz27
  refine ⟨I1.kIn, ?_⟩
  exact run_fn F hr hb hd hx I1 r q
theorem pe_meth0 {pl : Sem Bool} (he : PE X o ta) (c : Cls X.K C) (hm : Meth X.K C m f) (F : FnOk X.prog X.w X.K X.mg X.base CX k f fd ps sp) (hr : Room k X.A) (hb : Binds X.K fd ps ds) (hd : Vals dvs ds) (hx : Passes CX X E)
    (ht : eval (.Call (.Attribute o m apos) [] [] pos) X.env = (do
      let ov ← eval o X.env
      standAt apos.atName
      let (f, first) ← holding [ov] (getMethod ov m pl)
      callWith pos f first (backTo pos (starEach [] X.env)) (backToKw pos (keywordEach [] X.env))) := by rfl) :
    PE X (.Call (.Attribute o m apos) [] [] pos) (tMeth C m sp dvs E ta tNil) := by
  intro pins s σ H Q I h
  refine PySem.W.methodCall_KW (pl := pl) (thn (he pins s σ H _ I h) fun u s1 hz28 => ?_) ht
  obtain ⟨x, H1, I1, rx, a, dx, fs, ex, ea, l, q⟩ := hz28
  subst ex
  obtain rfl : u = Value.ref a := rx
  refine getmeth_ok I1 ea c hm l ?_
  exact PySem.W.callWith_K0 (first := [.ref a]) I1.kIn hm.kp (run_fn (us := [.ref a]) (vs := [.ref a]) F hr hb hd hx I1 (.cons rfl .nil) q)
structure Mk (K : PySem.W.Frag) (C f : Addr) : Prop where
  makes : PySem.W.makesIn K C = true
  init : PySem.W.findIn K (.ref C) "__init__" = some (some (.ref f))
  fn : PySem.W.isFn K (.ref f) = true
  kp : PySem.W.keepIn K (.ref C) = true
theorem run_make {pins : List (Addr × Obj)} {σ : St} {H : Hp} {s : Shared} {Q : VK} {us : List Value} {vs : List V} (M : Mk X.K C f) (F : FnOk X.prog X.w X.K X.mg X.base CX k f fd ps sp) (hr : Room (k + 1) X.A) (hb : Binds X.K fd ps ds) (hd : Vals dvs ds)
    (hx : Passes CX X E) (I : Inv X pins σ H s) (r : Vals vs us)
    (h : ∀ x dx, H x = none → H dx = none → dx ≠ x → sp (.ref x :: (vs ++ dvs)) (upd (upd H dx (.own x)) x (.ins C dx [])) (fun v H2 => v = .non ∧ Q (.ref x) H2) E) :
    wpAny (model X.prog X.w) X.A (call (.ref C) us) (EP X pins σ Q) X.xe s := by
  have hq := h (s.heap.objs.size + 1) s.heap.objs.size (I.hok.fresh (Nat.le_succ _)) (I.hok.fresh (Nat.le_refl _)) (Nat.ne_of_lt (Nat.lt_succ_self _))
  have I2 := Inv.made (C := C) I
  have r2 : Vals (V.ref (s.heap.objs.size + 1) :: (vs ++ dvs)) (Value.ref (s.heap.objs.size + 1) :: (us ++ ds)) := .cons rfl (r.append hd)
  have hl : (Value.ref (s.heap.objs.size + 1) :: us ++ ds).length = ps.length := by
    have e := r2.length
    rw [F.len _ _ _ _ hq] at e
    exact e.symm
  refine wpAny_call (make_map (f := f) I.kIn M.makes M.init (beq_iff_eq.mp M.fn) (codeAny_mono (F.run _ X.stack _ _ ⟨Value.ref (s.heap.objs.size + 1) :: us, []⟩ (Value.ref (s.heap.objs.size + 1) :: (us ++ ds)) _ _ E (hr.make C us [])
    (I2.env0.make C us []) (hb _ (Value.ref (s.heap.objs.size + 1) :: us) I2.kIn hl) r2 hq) fun r s' hq' => ?_))
  cases r with
  | error e => exact hx pins σ _ _ e s' I2 hq'
  | ok fl =>
    cases fl with
    | ret u =>
      obtain ⟨v, H', I3, rv, ev, q3⟩ := I2.after hq'
      subst ev
      exact ⟨rv, ⟨V.ref (s.heap.objs.size + 1), H', I3, rfl, q3⟩⟩
    | next => exact False.elim hq'
    | brk => exact False.elim hq'
    | cont => exact False.elim hq'
theorem pe_make (M : Mk X.K C f) (F : FnOk X.prog X.w X.K X.mg X.base CX k f fd ps sp) (hr : Room (k + 1) X.A) (hg : Gl X x) (hm : X.mg x = some (.ref C)) (hb : Binds X.K fd ps ds) (hd : Vals dvs ds) (hx : Passes CX X E)
    (ha : PA X (e :: es) t) (hdb : (x == ("__debug__" : Str)) = false := by decide) (he : starEach (e :: es) X.env = (false, eval e X.env) :: starEach es X.env := by rfl) (hpl : (backTo pos (starEach es X.env)).any (·.1) = false := by rfl) :
    PE X (.Call (.Name x p) (e :: es) [] pos) (tMake C sp dvs E t) := by
  intro pins s σ H Q I h
  refine wpAny_Call_Name_kw (ld_glob I hg hm ?_ hdb)
  refine PySem.W.callWith_K (h₀ := X.base) I.ok.mod.kin M.kp (thn (ha pos pins s σ H _ I h) fun us s1 hz29 => ?_) he hpl
  obtain ⟨vs, H1, I1, r, q⟩ := hz29
  refine ⟨I1.kIn, ?_⟩
  exact run_make M F hr hb hd hx I1 r q
end
section
variable {X : Cx} {CX : CXT} {k : Nat} {f C : Addr} {fd : FuncData} {ps ks : List Str} {sp : Sp} {E : XK} {x m : Str} {p pos apos kpos : Pos} {e o : Expr} {es : List Expr} {kws : List Keyword} {te ta : TE} {t tk : TA} {nm : Option Str}
structure KBinds (K : PySem.W.Frag) (fd : FuncData) (ps ks : List Str) (g : List Value → List Value → List Value) (gV : List V → List V → List V) : Prop where
  to : ∀ (s : Shared) (us ws : List Value), K.In s.heap → (g us ws).length = ps.length → BindsTo s fd ⟨us, ks.zip ws⟩ (ps.zip (g us ws))
  rel : ∀ {vs : List V} {us : List Value} {zs : List V} {ws : List Value}, Vals vs us → Vals zs ws → Vals (gV vs zs) (g us ws)
variable {g : List Value → List Value → List Value} {gV : List V → List V → List V}
end
structure FnScope (N P : List Str) (sc : Scope) : Prop where
  kind : sc.kind = .function
  co : sc.isCoroutine = false
  gen : sc.isGenerator = false
  nd : N.Nodup
  pre : N.take P.length = P
  par : ∀ x ∈ P, sc.names.lookup x = some .local ∨ sc.names.lookup x = some .cell
  nofree : ∀ y ∈ sc.names, y.2 ≠ .free
theorem bindL_out {kindOf : Str → Option NameKind} {x : Str} : ∀ {binds : List (Str × Value)} {m : Str → Option Value}, (∀ v, (x, v) ∉ binds) → bindL kindOf binds m x = m x
  | [], _, _ => rfl
  | (n, v) :: r, m, h => by
    unfold bindL
    rw [bindL_out fun w hw => h w (List.mem_cons_of_mem _ hw)]
    split
    · have : x ≠ n := by rintro rfl; exact h v List.mem_cons_self
      simp [this]
    · rfl
theorem bindC_out {kindOf : Str → Option NameKind} {x : Str} : ∀ {binds : List (Str × Value)} {m : Str → Option Value}, (∀ v, (x, v) ∉ binds) → bindC kindOf binds m x = m x
  | [], _, _ => rfl
  | (n, v) :: r, m, h => by
    unfold bindC
    rw [bindC_out fun w hw => h w (List.mem_cons_of_mem _ hw)]
    split
    · rfl
    · have : x ≠ n := by rintro rfl; exact h v List.mem_cons_self
      simp [this]
theorem bindL_get {kindOf : Str → Option NameKind} {x : Str} {v : Value} : ∀ {P : List Str} {vs : List Value} {i : Nat} {m : Str → Option Value}, P.Nodup → P[i]? = some x → vs[i]? = some v → kindOf x = some .local →
    bindL kindOf (P.zip vs) m x = some v
  | [], _, _, _, _, h, _, _ => by simp at h
  | _ :: _, [], _, _, _, _, h, _ => by simp at h
  | p :: P, w :: vs, 0, m, nd, h1, h2, hk => by
    simp at h1 h2; subst h1; subst h2
    show bindL kindOf ((p, w) :: P.zip vs) m p = _
    unfold bindL
    rw [bindL_out fun v hv => (List.nodup_cons.mp nd).1 (List.of_mem_zip hv).1, if_pos hk]
    simp
  | p :: P, w :: vs, i + 1, m, nd, h1, h2, hk => by
    show bindL kindOf ((p, w) :: P.zip vs) m x = _
    unfold bindL
    exact bindL_get (i := i) (List.nodup_cons.mp nd).2 (by simpa using h1) (by simpa using h2) hk
theorem bindC_get {kindOf : Str → Option NameKind} {x : Str} {v : Value} : ∀ {P : List Str} {vs : List Value} {i : Nat} {m : Str → Option Value}, P.Nodup → P[i]? = some x → vs[i]? = some v → kindOf x ≠ some .local →
    bindC kindOf (P.zip vs) m x = some v
  | [], _, _, _, _, h, _, _ => by simp at h
  | _ :: _, [], _, _, _, _, h, _ => by simp at h
  | p :: P, w :: vs, 0, m, nd, h1, h2, hk => by
    simp at h1 h2; subst h1; subst h2
    show bindC kindOf ((p, w) :: P.zip vs) m p = _
    unfold bindC
    rw [bindC_out fun v hv => (List.nodup_cons.mp nd).1 (List.of_mem_zip hv).1, if_neg hk]
    simp
  | p :: P, w :: vs, i + 1, m, nd, h1, h2, hk => by
    show bindC kindOf ((p, w) :: P.zip vs) m x = _
    unfold bindC
    exact bindC_get (i := i) (List.nodup_cons.mp nd).2 (by simpa using h1) (by simpa using h2) hk
noncomputable def start (N : List Str) (vs : List V) : St := vs.map some ++ List.replicate (N.length - vs.length) none
noncomputable def cxOf (CX : CXT) (P : Program) (w : World) (K : PySem.W.Frag) (mg : Str → Option Value) (base : Heap) (N : List Str) (qual : Str) (scope : Scope) (f : Addr) (cd : Value) (A : Around) (outer : List Env) (s : Shared) (H : Hp) (E : XK) : Cx where
  prog := P
  w := w
  K := K
  mg := mg
  base := base
  A := A.deeper (envOfC qual scope s.heap.objs.size f cd)
  N := N
  s₀ := s
  H₀ := H
  env := envOfC qual scope s.heap.objs.size f cd
  outer := outer
  stack := envOfC qual scope s.heap.objs.size f cd :: outer
  ex := []
  calm := true
  fn := fun _ => true
  pn := []
  xe := fun e s' => wpAny (model P w) (A.deeper (envOfC qual scope s.heap.objs.size f cd)) (leaving (envOfC qual scope s.heap.objs.size f cd) e) (fun _ s'' => CX outer H s E e s'') (fun e' s'' => CX outer H s E e' s'') s'
theorem cell_has {sc : Scope} {n : Nat} {x : Str} (h : sc.names.lookup x = some .cell) : ∃ c, (cellsFrom n sc.names []).lookup x = some c := by
  have q := PySem.W.cellsFrom_some sc.names n [] (.inl h)
  exact Option.isSome_iff_exists.mp q
theorem inv_start {CX : CXT} {P : Program} {w : World} {K : PySem.W.Frag} {mg : Str → Option Value} {base : Heap} {N ps : List Str} {qual : Str} {scope : Scope} {f : Addr} {cd : Value} {A : Around} {outer : List Env} {s s1 : Shared} {H : Hp} {E : XK} {us : List Value} {vs : List V}
    (S : FnScope N ps scope) (hd : A.handled = none) (e0 : Env0 P w K mg base A outer s H) (hl : vs.length = ps.length) (r : Vals vs us)
    (x : InCallC s s.heap.objs.size (bindL (envOfC qual scope s.heap.objs.size f cd).kindOf (ps.zip us) fun _ => none) (cellsFrom (s.heap.objs.size + 1) scope.names []) (bindC (envOfC qual scope s.heap.objs.size f cd).kindOf (ps.zip us) fun _ => none) s1) :
    Inv (cxOf CX P w K mg base N qual scope f cd A outer s H E) [] (start N vs) H s1 := by
  have hpl : ps.length ≤ N.length := by have := congrArg List.length S.pre; rw [List.length_take] at this; omega
  obtain ⟨h1, tk, rfl, hk⟩ := x.done
  have noA : ∀ b : Addr, b ∉ (cxOf CX P w K mg base N qual scope f cd A outer s H E).ex := fun b z => absurd (show b ∈ ([] : List Addr) from z) (by simp)
  refine ⟨⟨e0.mod, S.kind, rfl, rfl, Nat.le_refl _, fun y z c h1 h2 => ?_, fun y hy => ?_, fun y c _ h => ?_, fun _ => hd, Around.frames_deeper e0.frames, .inr ⟨rfl, rfl⟩, fun b z => absurd z (noA b), e0.bs, e0.bsz, fun b _ _ => noA b, fun b z => absurd z (noA b), e0.funs, e0.frf⟩,
    rfl, e0.bare, Un.kept hk, ⟨_, x.toInCall.ns, fun i y v h1 h2 h3 => ?_⟩, fun y c h => ⟨_, x.cell y c h⟩, e0.hok.fresh (Nat.le_refl _), fun y c h => ?_, fun p hp => absurd (show p ∈ ([] : List (Addr × Obj)) from hp) (by simp), e0.hok.kept hk, ?_⟩
  · exact name_of_addr x.apart (PySem.mem_of_lookup h1) (PySem.mem_of_lookup h2)
  · have hy : scope.names.lookup y = some .cell ∨ scope.names.lookup y = some .free := hy
    rcases hy with hy | hy
    · exact cell_has hy
    · exact absurd rfl (S.nofree _ (PySem.mem_of_lookup hy))
  · exact Nat.le_of_lt (x.above y c (PySem.mem_of_lookup h))
  · have hi : i < vs.length := by
      unfold start at h2
      by_cases hi : i < vs.length
      · exact hi
      · rw [List.getElem?_append_right (by simpa using hi)] at h2
        rw [List.getElem?_replicate] at h2
        split at h2 <;> cases h2
    have ha : vs[i]? = some v := by
      unfold start at h2
      rw [List.getElem?_append_left (by simpa using hi), List.getElem?_map] at h2
      cases e : vs[i]? with
      | none => rw [e] at h2; cases h2
      | some a => rw [e] at h2; cases h2; rfl
    obtain ⟨u, hu, rv⟩ := r.get ha
    have hp : ps[i]? = some y := by
      rw [← S.pre, List.getElem?_take_of_lt (by omega)]; exact h1
    have ndP : ps.Nodup := by rw [← S.pre]; exact S.nd.sublist (List.take_sublist _ _)
    refine ⟨u, rv, ?_⟩
    rcases S.par y (List.mem_of_getElem? hp) with k | k
    · exact .inl ⟨k, bindL_get ndP hp hu k⟩
    · obtain ⟨c, e⟩ := cell_has (n := s.heap.objs.size + 1) k
      refine .inr ⟨.inl k, c, e, ?_⟩
      have q := x.cell y c e
      rw [bindC_get ndP hp hu (by show scope.names.lookup y ≠ _; rw [k]; decide)] at q
      exact q
  · exact e0.hok.fresh (Nat.le_of_lt (x.above y c (PySem.mem_of_lookup h)))
  · unfold start
    show _ = N.length
    rw [List.length_append, List.length_map, List.length_replicate]
    omega
theorem fn_of {CX : CXT} {P : Program} {w : World} {K : PySem.W.Frag} {mg : Str → Option Value} {base : Heap} {k : Nat} {f : Addr} {name qual : Str} {params : Arguments} {body : List Stmt} {scope : Scope} {dV kV doc pm cdv ct oc : Value} {an od : Option Addr}
    {osl : Array (Option Value)} {N ps : List Str} {sp : Sp} (lk : K.lookup f = some ⟨oc, od, .func (PySem.W.fnOf name qual params body scope dV kV doc pm an cdv ct), osl⟩) (hcd : PySem.W.codeIn K cdv qual = true) (S : FnScope N ps scope)
    (len : ∀ vs H Q E, sp vs H Q E → vs.length = ps.length)
    (hbody : ∀ (A : Around) (outer : List Env) (s : Shared) (H : Hp) (vs : List V) (Q : VK) (E : XK), Room k (A.deeper (envOfC qual scope s.heap.objs.size f cdv)) → sp vs H Q E →
      ∃ t, PSs (cxOf CX P w K mg base N qual scope f cdv A outer s H E) body t ∧ t { nx := fun _ H' => Q .non H', rt := Q } (start N vs) H) :
    FnOk P w K mg base CX (k + 1) f (PySem.W.fnOf name qual params body scope dV kV doc pm an cdv ct) ps sp := by
  refine ⟨len, fun A outer s H args us vs Q E hr e0 hb r hsp => ?_⟩
  have hl := len _ _ _ _ hsp
  have KX : K.In s.heap := e0.mod.kin.keeps fun b o e => (e0.bs b o e).1
  have lim : s.heap.NoLimit := e0.mod.nolimit.keeps fun b o e => (e0.bs b o e).1
  have hkind : ∀ y ∈ ps.zip us, scope.names.lookup y.1 = some .local ∨ (scope.names.lookup y.1 = some .cell ∧ ((cellsFrom (s.heap.objs.size + 1) scope.names []).lookup y.1).isSome = true) := fun ⟨n, v⟩ hy => by
    rcases S.par n (List.of_mem_zip hy).1 with q | q
    · exact .inl q
    · exact .inr ⟨q, PySem.W.cellsFrom_some _ _ _ (.inl q)⟩
  refine codeAny_call_function hr.depth (KX _ _ lk) rfl S.co S.gen rfl (PySem.W.codeRec_of KX hcd) (hb _ _ _ _ ?_)
  refine wpAny_newFunctionEnv_cells S.kind hkind fun env he s1 x => ?_
  subst he
  refine ⟨lim.keeps x.toInCall.keep, codeAny_func ?_⟩
  obtain ⟨t, ht, hq⟩ := hbody A outer s H vs Q E (hr.deeper _) hsp
  have I : Inv (cxOf CX P w K mg base N qual scope f cdv A outer s H E) [] (start N vs) H s1 := inv_start S hr.hd e0 hl r x
  refine wpAny_mono (ht [] s1 (start N vs) H _ I hq) (fun fl s' hs => ?_) fun e s' hs => hs
  have fin : ∀ {σ' : St} {H' : Hp} {v : V} {u : Value}, Inv (cxOf CX P w K mg base N qual scope f cdv A outer s H E) [] σ' H' s' → RelV v u → Q v H' → CE outer P w H s Q u s' :=
    fun {σ' H' v u} J rv q => ⟨v, H', J.os, J.bare, J.base, J.hok, rv, q⟩
  cases fl with
  | ret u =>
    obtain ⟨v, σ', H', J, rv, q⟩ := hs
    exact fin J rv q
  | next =>
    obtain ⟨σ', H', J, q⟩ := hs
    exact fin (v := V.non) (u := Value.none) J rfl q
  | brk =>
    obtain ⟨_, _, _, q⟩ := hs
    exact False.elim q
  | cont =>
    obtain ⟨_, _, _, q⟩ := hs
    exact False.elim q
end L2
namespace L2
open PySem PySem.Spec PyProof.Rows
section
variable {X : Cx} {x : Str} {p pos : Pos} {e : Expr} {es : List Expr} {t : TA} {id T : String} {r : List V → Hp → VK → Prop}
noncomputable def tCB (r : List V → Hp → VK → Prop) (t : TA) : TE := fun σ H Q => t σ H fun vs H1 => r vs H1 Q
theorem pe_callB (hc : CallR X (.builtin id) r) (hg : Gl X x) (hm : X.mg x = none) (hv : bootBuiltins x = some (.builtin id)) (ha : PA X (e :: es) t) (hn : x ≠ "__name__" := by decide) (hdb : (x == ("__debug__" : Str)) = false := by decide)
    (he : starEach (e :: es) X.env = (false, eval e X.env) :: starEach es X.env := by rfl) (hpl : (backTo pos (starEach es X.env)).any (·.1) = false := by rfl) : PE X (.Call (.Name x p) (e :: es) [] pos) (tCB r t) := by
  intro pins s σ H Q I h
  refine wpAny_Call_Name_kw (ld_blt I hg hm hv ?_ hn hdb)
  exact PyProof.Rows.callWith_builtin1 (thn (ha pos pins s σ H _ I h) fun us s1 ⟨vs, H1, I1, r1, q1⟩ => hc pins s1 σ H1 vs us Q I1 r1 q1) he hpl
theorem pe_callTy (hc : CallR X (.type T) r) (hg : Gl X x) (hm : X.mg x = none) (hv : bootBuiltins x = some (.type T)) (ha : PA X (e :: es) t) (hn : x ≠ "__name__" := by decide) (hdb : (x == ("__debug__" : Str)) = false := by decide)
    (he : starEach (e :: es) X.env = (false, eval e X.env) :: starEach es X.env := by rfl) (hpl : (backTo pos (starEach es X.env)).any (·.1) = false := by rfl) : PE X (.Call (.Name x p) (e :: es) [] pos) (tCB r t) := by
  intro pins s σ H Q I h
  refine wpAny_Call_Name_kw (ld_blt I hg hm hv ?_ hn hdb)
  exact PyProof.Rows.callWith_type1 (thn (ha pos pins s σ H _ I h) fun us s1 ⟨vs, H1, I1, r1, q1⟩ => hc pins s1 σ H1 vs us Q I1 r1 q1) he hpl
end
end L2
namespace HT
open PySem PyProof.Rows
section
open PySem.SeqAt
open PySem.AutoSeq1 (wpAny_loadPart')
open PySem.MeetsSeq PySem.MeetsSeq2 PySem.MeetsSeq3
end
section
variable {prog : Program} {w : World} {A : Around} {E : Value → Shared → Prop} {s : Shared}
noncomputable def sIx (n d : Nat) : Option Int → Nat
  | none => d
  | some v => if v < 0 then (v + (n : Int)).toNat else min v.toNat n
theorem sIx_none (n d : Nat) : sIx n d none = d := rfl
theorem sIx_nat (n d k : Nat) : sIx n d (some (k : Int)) = min k n := by
  show (if (k : Int) < 0 then ((k : Int) + (n : Int)).toNat else min (k : Int).toNat n) = min k n
  rw [if_neg (by omega), Int.toNat_natCast]
theorem slicePart_ {v : Value} {o : Option Int} {Q : Option Int → Shared → Prop} (p : IsPart v o) (h : Q o s) : wpAny (model prog w) A (Builtin.Slice.slicePartIndex v) Q E s := by
  cases p with
  | none => exact slicePart_none h
  | int i t => exact slicePart_int h
end
end HT
namespace L2
open PySem PySem.Spec PyProof.Rows
noncomputable abbrev TO := St → Hp → (Option Int → Hp → Prop) → Prop
noncomputable def PO (X : Cx) (e : Option Expr) (t : TO) : Prop :=
  ∀ (pins : List (Addr × Obj)) (s : Shared) (σ : St) (H : Hp) (Q : Option Int → Hp → Prop), Inv X pins σ H s → t σ H Q →
    wpAny (model X.prog X.w) X.A (evalPart e X.env) (fun u s' => ∃ o H', Inv X pins σ H' s' ∧ IsPart u o ∧ Q o H') X.xe s
noncomputable def tNoPart : TO := fun _ H Q => Q none H
noncomputable def tPart (t : TE) : TO := fun σ H Q => t σ H fun x H1 => ∃ i, x = .int i ∧ Q (some i) H1
section
variable {X : Cx} {e : Expr} {te : TE} {lo hi : Option Expr} {tl th : TO} {pos p2 : Pos}
theorem po_none : PO X none tNoPart := by
  intro pins s σ H Q I h
  rw [evalPart_none]
  exact wpAny_pure ⟨none, H, I, .none, h⟩
theorem po_some (h : PE X e te) : PO X (some e) (tPart te) := by
  intro pins s σ H Q I hw
  rw [evalPart_some]
  refine thn (h pins s σ H _ I hw) fun u s1 hz30 => ?_
  obtain ⟨x, H1, I1, r1, q1⟩ := hz30
  obtain ⟨i, rfl, q⟩ := q1
  obtain ⟨t, rfl⟩ := r1
  exact ⟨some i, H1, I1, .int i t, q⟩
noncomputable def SlR (X : Cx) (r : V → Option Int → Option Int → Hp → VK → Prop) : Prop :=
  ∀ (pins : List (Addr × Obj)) (s : Shared) (σ : St) (H : Hp) (x : V) (v vl vu : Value) (lo hi : Option Int) (sl : Addr) (Q : VK), Inv X pins σ H s → RelV x v → s.heap.IsSliceOf sl vl vu .none → IsPart vl lo → IsPart vu hi → r x lo hi H Q →
    ∃ T id, typeLookup (.type T) "__getitem__" = pure (some (.builtin id)) ∧ s.TypeIs v T ∧ wpAny (model X.prog X.w) X.A (getItem v (.ref sl)) (EP X pins σ Q) X.xe s
noncomputable def tSl (r : V → Option Int → Option Int → Hp → VK → Prop) (te : TE) (tl th : TO) : TE := fun σ H Q => te σ H fun x H1 => tl σ H1 fun l H2 => th σ H2 fun u H3 => r x l u H3 Q
theorem pe_slice {r : V → Option Int → Option Int → Hp → VK → Prop} (hr : SlR X r) (he : PE X e te) (hl : PO X lo tl) (hu : PO X hi th) : PE X (.Subscript e (.Slice lo hi none p2) pos) (tSl r te tl th) := by
  intro pins s σ H Q I h
  refine Subscript_ (thn (he pins s σ H _ I h) fun v s1 hz31 => ?_)
  obtain ⟨x, H1, I1, r1, q1⟩ := hz31
  refine wpAny_Slice (thn (hl pins s1 σ H1 _ I1 q1) fun vl s2 hz32 => ?_)
  obtain ⟨l, H2, I2, pl, q2⟩ := hz32
  refine thn (hu pins s2 σ H2 _ I2 q2) fun vu s3 hz33 => ?_
  obtain ⟨u, H3, I3, pu, q3⟩ := hz33
  rw [evalPart_none]
  refine wpAny_pure ?_
  have I4 : Inv X pins σ H3 { s3 with heap := s3.heap.push { cls := .type "slice", data := .fields #[vl, vu, .none] } } := I3.kept (t' := s3.toks) fun b ob q => Heap.get?_push_of_some _ q
  obtain ⟨T, id, hT, ht, hg⟩ := hr pins { s3 with heap := s3.heap.push { cls := .type "slice", data := .fields #[vl, vu, .none] } } σ H3 x v vl vu l u s3.heap.objs.size Q I4 r1 (Heap.IsSliceOf.new ..) pl pu q3
  show wpAny (model X.prog X.w) X.A (subscriptTail e (.Slice lo hi none p2) v (.ref s3.heap.objs.size)) (EP X pins σ Q) X.xe { s3 with heap := s3.heap.push { cls := .type "slice", data := .fields #[vl, vu, .none] } }
  exact tail_any (ops := [.ref s3.heap.objs.size, v]) ht hT hg (by with_unfolding_all rfl)
noncomputable def cutV (xs : List V) (lo hi : Option Int) : List V := (xs.drop (HT.sIx xs.length 0 lo)).take (HT.sIx xs.length xs.length hi - HT.sIx xs.length 0 lo)
theorem cutV_length (xs : List V) (lo hi : Option Int) : (cutV xs lo hi).length ≤ xs.length := by
  unfold cutV
  rw [List.length_take, List.length_drop]
  omega
end
end L2
namespace L2
open PySem PySem.Spec PyProof.Rows
noncomputable def ixN (n : Nat) (i : Int) : Option Nat := if 0 ≤ i then (if i < n then some i.toNat else none) else if -(n : Int) ≤ i then some (i + n).toNat else none
noncomputable def atI {α : Type} (xs : List α) (i : Int) : Option α := (ixN xs.length i).bind fun j => xs[j]?
theorem ixN_seq {n : Nat} {i : Int} {j : Nat} (h : ixN n i = some j) : seqIndex? i n = some j ∧ j < n ∧ -(n : Int) ≤ i ∧ i < n := by
  unfold ixN at h
  by_cases h0 : 0 ≤ i
  · rw [if_pos h0] at h
    by_cases h1 : i < n
    · rw [if_pos h1] at h
      have e : i.toNat = j := Option.some.inj h
      exact ⟨by rw [seqIndex_of h0 h1, e], by omega, by omega, h1⟩
    · rw [if_neg h1] at h; cases h
  · rw [if_neg h0] at h
    by_cases h1 : -(n : Int) ≤ i
    · rw [if_pos h1] at h
      have e : (i + n).toNat = j := Option.some.inj h
      exact ⟨by rw [seqIndex_neg (by omega) h1, e], by omega, h1, by omega⟩
    · rw [if_neg h1] at h; cases h
theorem atI_get {α : Type} {xs : List α} {i : Int} {v : α} (h : atI xs i = some v) : ∃ j, seqIndex? i xs.length = some j ∧ xs[j]? = some v ∧ j < xs.length ∧ -(xs.length : Int) ≤ i ∧ i < xs.length := by
  unfold atI at h
  cases e : ixN xs.length i with
  | none => rw [e] at h; cases h
  | some j =>
    rw [e] at h
    obtain ⟨h1, h2, h3, h4⟩ := ixN_seq e
    exact ⟨j, h1, h, h2, h3, h4⟩
theorem atI_nat {α : Type} {xs : List α} {j : Nat} {v : α} (h : xs[j]? = some v) : atI xs (j : Int) = some v := by
  have hj : j < xs.length := (List.getElem?_eq_some_iff.mp h).1
  have e : ixN xs.length (j : Int) = some j := by
    unfold ixN
    rw [if_pos (by omega), if_pos (by omega)]; simp
  unfold atI; rw [e]; exact h
theorem atI_last {α : Type} (xs : List α) (v : α) : atI (xs ++ [v]) (-1) = some v := by
  have hl : (xs ++ [v]).length = xs.length + 1 := by simp
  have e : ixN (xs ++ [v]).length (-1) = some xs.length := by
    unfold ixN
    rw [hl, if_neg (by decide), if_pos (by omega)]
    congr 1
    omega
  unfold atI
  rw [e]
  show (xs ++ [v])[xs.length]? = some v
  simp
noncomputable def PlainIx (b : Expr) : Prop := ∀ o i, subscripted b false o i = operate [o, i] (getItem o i)
noncomputable def IxR (X : Cx) (r : R2) : Prop :=
  ∀ (value slice : Expr) (pins : List (Addr × Obj)) (s : Shared) (σ : St) (H : Hp) (x y : V) (v u : Value) (Q : VK), Inv X pins σ H s → RelV x v → RelV y u → r x y H Q →
    subscripted slice false v u = operate [v, u] (getItem v u) → wpAny (model X.prog X.w) X.A (subscriptTail value slice v u) (EP X pins σ Q) X.xe s
noncomputable def MtR (X : Cx) (id : String) (r : V → List V → Hp → VK → Prop) : Prop :=
  ∀ (pins : List (Addr × Obj)) (s : Shared) (σ : St) (H : Hp) (x : V) (xs : List V) (v : Value) (us : List Value) (Q : VK), Inv X pins σ H s → RelV x v → Vals xs us → r x xs H Q →
    wpAny (model X.prog X.w) X.A (call (.builtin id) (v :: us)) (EP X pins σ Q) X.xe s
section
variable {X : Cx} {a b : Expr} {ta tb : TE} {pos : Pos}
theorem pe_ix {r : R2} (hr : IxR X r) (ha : PE X a ta) (hb : PE X b tb) (hs : PlainIx b) : PE X (.Subscript a b pos) (tOp r ta tb) := by
  intro pins s σ H Q I h
  exact Subscript_ (binT ha hb I h fun v u s2 x y H2 I2 rx ry q => hr a b pins s2 σ H2 x y v u Q I2 rx ry q (hs _ _))
noncomputable def rIxL (K : PySem.W.Frag) : R2 := fun x y H Q => ∃ p xs i v, x = .ref p ∧ y = .int i ∧ SqL K H p xs ∧ atI xs i = some v ∧ Q v H
noncomputable def rIxT (K : PySem.W.Frag) : R2 := fun x y H Q => ∃ p xs i v, x = .ref p ∧ y = .int i ∧ SqT K H p xs ∧ atI xs i = some v ∧ Q v H
noncomputable def rIxS : R2 := fun x y H Q => ∃ z i c, x = .str z ∧ y = .int i ∧ z.length ≤ sizeLine ∧ atI z.cps.toList i = some c ∧ Q (.str ⟨#[c]⟩) H
theorem ix_list : IxR X (rIxL X.K) := by
  intro value slice pins s σ H x y v u Q I rx ry h hs
  obtain ⟨p, xs, i, z, rfl, rfl, hq, he, q⟩ := h
  cases rx
  obtain ⟨t, rfl⟩ := ry
  obtain ⟨its, r, pl, hz⟩ := I.list hq
  obtain ⟨j, h1, h2, h3, h4, h5⟩ := atI_get he
  obtain ⟨w, ew, rw'⟩ := r.get h2
  have hl := r.length
  have hn := line63
  have fin : EP X pins σ Q w s := ⟨z, H, I, rw', q⟩
  by_cases h0 : 0 ≤ i
  · have hj : i.toNat = j := by
      rw [seqIndex_of h0 h5] at h1
      exact Option.some.inj h1
    exact item_listR pl.isList h0 (by omega) (by rw [hj]; simpa using ew) fin hs
  · have hj : (i + (its.toArray.size : Int)).toNat = j := by
      rw [seqIndex_neg (by omega) h4] at h1
      rw [List.size_toArray, ← hl]
      exact Option.some.inj h1
    exact subscriptTail_builtinR (x := w) pl.isList.typeIs slot_list_getitem.lookup
      (wpAny_getItem_list_neg (Q := fun r s' => r = w ∧ EP X pins σ Q r s') pl.isList (by omega) (by rw [List.size_toArray] <;> omega) (by omega) (by rw [hj]; simpa using ew) ⟨rfl, fin⟩) hs
theorem ix_tup : IxR X (rIxT X.K) := by
  intro value slice pins s σ H x y v u Q I rx ry h hs
  obtain ⟨p, xs, i, z, rfl, rfl, hq, he, q⟩ := h
  cases rx
  obtain ⟨t, rfl⟩ := ry
  obtain ⟨its, r, pl, hz⟩ := I.tuple hq
  obtain ⟨j, h1, h2, h3, h4, h5⟩ := atI_get he
  obtain ⟨w, ew, rw'⟩ := r.get h2
  have hl := r.length
  have hn := line63
  have fin : EP X pins σ Q w s := ⟨z, H, I, rw', q⟩
  exact subscriptTail_builtinR (x := w) pl.typeIs slot_tuple_getitem.lookup
    (getItem_tuple (j := j) (Q := fun r s' => r = w ∧ EP X pins σ Q r s') pl (by omega) (by omega) (by rw [List.size_toArray, ← hl]; exact h1) (by simpa using ew) ⟨rfl, fin⟩) hs
theorem ix_str : IxR X rIxS := by
  intro value slice pins s σ H x y v u Q I rx ry h hs
  obtain ⟨z, i, c, rfl, rfl, hz, he, q⟩ := h
  obtain ⟨t, rfl⟩ := rx
  obtain ⟨t', rfl⟩ := ry
  obtain ⟨j, h1, h2, h3, h4, h5⟩ := atI_get he
  have hl : z.cps.toList.length = z.length := by simp [Str.length]
  rw [hl] at h1 h4 h5
  have hn := line63
  exact tail_any (typeIs_str s z t) slot_str_getitem.lookup (getItem_str (c := c) (by
    have e1 : decide (i < -(2 ^ 63 : Int)) = false := decide_eq_false (by omega)
    have e2 : decide (i ≥ 2 ^ 63) = false := decide_eq_false (by omega)
    rw [e1, e2, Bool.or_false]) (by rw [h1]; simpa using h2) ⟨.str ⟨#[c]⟩, H, I.tok _, ⟨_, rfl⟩, q⟩) hs
theorem mapSeq_set (its : List Value) (n j : Nat) (u : Value) : Obj.mapSeq (·.setIfInBounds j u) { cls := .type "list", data := .seq its.toArray n } = { cls := .type "list", data := .seq (its.set j u).toArray n } := by
  simp [Obj.mapSeq]
theorem Inv.lst {pins : List (Addr × Obj)} {σ : St} {H : Hp} {s : Shared} {p : Addr} {xs : List V} (I : Inv X pins σ H s) (h : H p = some (.lst xs)) :
    ∃ (its : List Value) (n : Nat), Vals xs its ∧ s.heap.get? p = some { cls := .type "list", data := .seq its.toArray n } ∧ xs.length ≤ sizeLine := by
  obtain ⟨z, its, n, r, e⟩ := I.hok p _ h
  exact ⟨its, n, r, e, z⟩
theorem Inv.lstUpd {pins : List (Addr × Obj)} {σ : St} {H : Hp} {s : Shared} {p : Addr} {xs ys : List V} {its its' : List Value} {n n' : Nat} {f : Obj → Obj} (I : Inv X pins σ H s) (h : H p = some (.lst xs))
    (ho : s.heap.get? p = some { cls := .type "list", data := .seq its.toArray n }) (hf : f { cls := .type "list", data := .seq its.toArray n } = { cls := .type "list", data := .seq its'.toArray n' }) (r : Vals ys its') (hz : ys.length ≤ sizeLine) (t : Nat) :
    Inv X pins σ (upd H p (.lst ys)) { s with heap := s.heap.update p f, toks := t } := by
  have e : (s.heap.update p f).get? p = some { cls := .type "list", data := .seq its'.toArray n' } := by
    rw [Heap.get?_update_self f ho (by rw [hf] <;> rfl), hf]
  refine I.write (x := p) (e := p) (by rw [h]; trivial) (.inl rfl) (fun b u hb q => (Heap.get?_update_other _ _ (Ne.symm hb)).trans q) ⟨_, e⟩ ?_
  exact ⟨hz, its', n', r, e⟩
noncomputable def rSetL : V → V → V → Hp → (Hp → Prop) → Prop := fun o i v H Q => ∃ p xs k j, o = .ref p ∧ i = .int k ∧ H p = some (.lst xs) ∧ ixN xs.length k = some j ∧ Q (upd H p (.lst (xs.set j v)))
theorem set_list : PSet X rSetL := by
  intro pins s σ H o i v ov iv u Q I ro ri rv h
  obtain ⟨p, xs, k, j, rfl, rfl, hp, hj, q⟩ := h
  cases ro
  obtain ⟨t, rfl⟩ := ri
  obtain ⟨its, n, r, ho, hz⟩ := I.lst hp
  obtain ⟨h1, h2, h3, h4⟩ := ixN_seq hj
  have hl := r.length
  have hn := line63
  have I' : Inv X pins σ (upd H p (.lst (xs.set j v))) { s with heap := s.heap.update p (Obj.mapSeq (·.setIfInBounds j u)) } :=
    I.lstUpd hp ho (mapSeq_set its n j u) (r.set rv j) (by rw [List.length_set]; exact hz) s.toks
  by_cases h0 : 0 ≤ k
  · have hk : k.toNat = j := by
      rw [seqIndex_of h0 h4] at h1
      exact Option.some.inj h1
    exact PySem.W.ki_setAt ho h0 (by omega) (by rw [List.size_toArray, ← hl]; exact h4) (by rw [hk]; exact ⟨_, I', q⟩)
  · have hk : (k + (its.toArray.size : Int)).toNat = j := by
      rw [seqIndex_neg (by omega) h3] at h1
      rw [List.size_toArray, ← hl]
      exact Option.some.inj h1
    exact PySem.W.ki_setBack ho (by omega) (by rw [List.size_toArray, ← hl]; exact h3) (by omega) (by rw [hk]; exact ⟨_, I', q⟩)
theorem slice_bounds (lo hi : Option Int) (n : Nat) : (sliceBounds lo hi none n).1 = ((HT.sIx n 0 lo : Nat) : Int) ∧ (sliceBounds lo hi none n).2.1 = ((HT.sIx n n hi : Nat) : Int) ∧ (sliceBounds lo hi none n).2.2 = 1 := by
  refine ⟨?_, ?_, rfl⟩
  · cases lo with
    | none => simp [sliceBounds, HT.sIx]
    | some i =>
      simp only [sliceBounds, HT.sIx, Option.getD_none, show (1 : Int) > 0 by decide, if_true]
      by_cases h : i < 0
      · simp only [h, if_true] <;> omega
      · simp only [h, if_false] <;> omega
  · cases hi with
    | none => simp [sliceBounds, HT.sIx]
    | some i =>
      simp only [sliceBounds, HT.sIx, Option.getD_none, show (1 : Int) > 0 by decide, if_true]
      by_cases h : i < 0
      · simp only [h, if_true] <;> omega
      · simp only [h, if_false] <;> omega
theorem slicePick_cut (its : List Value) (lo hi : Option Int) : slicePick its.toArray lo hi none = ((its.drop (HT.sIx its.length 0 lo)).take (HT.sIx its.length its.length hi - HT.sIx its.length 0 lo)).toArray := by
  obtain ⟨h1, h2, h3⟩ := slice_bounds lo hi its.toArray.size
  unfold slicePick
  rw [h1, h2, h3]
  simp only [sliceRange_one, pick_run, List.size_toArray] <;> rfl
noncomputable def rSlL (K : PySem.W.Frag) : V → Option Int → Option Int → Hp → VK → Prop := fun x lo hi H Q => ∃ a xs, x = .ref a ∧ SqL K H a xs ∧ ∀ p, H p = none → Q (.ref p) (upd H p (.lst (cutV xs lo hi)))
theorem sl_list : SlR X (rSlL X.K) := by
  intro pins s σ H x v vl vu lo hi sl Q I rx hs pl pu h
  obtain ⟨a, xs, rfl, hx, q⟩ := h
  cases rx
  obtain ⟨its, r, ht, hz⟩ := I.list hx
  have hlen := r.length
  refine ⟨"list", _, slot_list_getitem.lookup, ht.isList.typeIs, ?_⟩
  refine wpAny_getItem_list_slice ht.isList hs pl pu .none (by simp) ?_ (by rw [List.size_toArray] <;> omega)
  rw [slicePick_cut, ← hlen]
  refine ⟨.ref s.heap.objs.size, _, I.laid (t' := s.toks) (o := .lst (cutV xs lo hi)) (fun b ob q => Heap.get?_push_of_some _ q) (Nat.le_refl _) ?_, rfl, q _ (I.hok.fresh (Nat.le_refl _))⟩
  exact ⟨Nat.le_trans (cutV_length xs lo hi) hz, _, 0, (r.drop (HT.sIx xs.length 0 lo)).take (HT.sIx xs.length xs.length hi - HT.sIx xs.length 0 lo), Heap.get?_push_size _ rfl⟩
noncomputable def flatV : V → Bool
  | .non => true
  | .bl _ => true
  | .int _ => true
  | .str _ => true
  | _ => false
noncomputable def eqV : V → V → Bool
  | .non, .non => true
  | .bl a, .bl b => a == b
  | .bl a, .int b => (if a then 1 else 0) == b
  | .int a, .bl b => a == (if b then 1 else 0)
  | .int a, .int b => a == b
  | .str a, .str b => a == b
  | _, _ => false
theorem eqAt_V {A : Around} {s : Shared} {y x : V} {u v : Value} (ry : RelV y u) (rx : RelV x v) (fy : flatV y = true) (fx : flatV x = true) : SeqAt.EqAt A s u v (eqV y x) := by
  cases y with
  | non =>
    cases ry
    cases x with
    | non => cases rx; exact SeqAt.EqAt.same _
    | bl b => cases rx; exact SeqAt.EqAt.none_bool b
    | int b => obtain ⟨t, rfl⟩ := rx; exact SeqAt.EqAt.none_int b t
    | str b => obtain ⟨t, rfl⟩ := rx; exact SeqAt.EqAt.none_str b t
    | _ => exact absurd (show false = true from fx) Bool.false_ne_true
  | bl a =>
    cases ry
    cases x with
    | non => cases rx; exact SeqAt.EqAt.bool_none a
    | bl b => cases rx; exact SeqAt.EqAt.bool_bool a b
    | int b => obtain ⟨t, rfl⟩ := rx; exact SeqAt.EqAt.bool_int a b t
    | str b => obtain ⟨t, rfl⟩ := rx; exact SeqAt.EqAt.bool_str a b t
    | _ => exact absurd (show false = true from fx) Bool.false_ne_true
  | int a =>
    obtain ⟨t', rfl⟩ := ry
    cases x with
    | non => cases rx; exact SeqAt.EqAt.int_none a t'
    | bl b => cases rx; exact SeqAt.EqAt.int_bool a t' b
    | int b => obtain ⟨t, rfl⟩ := rx; exact SeqAt.EqAt.int_int a t' b t
    | str b => obtain ⟨t, rfl⟩ := rx; exact SeqAt.EqAt.int_str a t' b t
    | _ => exact absurd (show false = true from fx) Bool.false_ne_true
  | str a =>
    obtain ⟨t', rfl⟩ := ry
    cases x with
    | non => cases rx; exact SeqAt.EqAt.str_none a t'
    | bl b => cases rx; exact SeqAt.EqAt.str_bool a t' b
    | int b => obtain ⟨t, rfl⟩ := rx; exact SeqAt.EqAt.str_int a t' b t
    | str b => obtain ⟨t, rfl⟩ := rx; exact SeqAt.EqAt.str_str a t' b t
    | _ => exact absurd (show false = true from fx) Bool.false_ne_true
  | _ => exact absurd (show false = true from fy) Bool.false_ne_true
noncomputable def eqU (x : V) (u : Value) : Bool := match u with
  | .none => eqV .non x
  | .bool b => eqV (.bl b) x
  | .int i _ => eqV (.int i) x
  | .str z _ => eqV (.str z) x
  | _ => false
theorem eqU_of {x y : V} {u : Value} (r : RelV y u) (f : flatV y = true) : eqU x u = eqV y x := by
  cases y with
  | non => cases r; rfl
  | bl b => cases r; rfl
  | int i => obtain ⟨t, rfl⟩ := r; rfl
  | str z => obtain ⟨t, rfl⟩ := r; rfl
  | _ => exact absurd (show false = true from f) Bool.false_ne_true
theorem any_eqU {x : V} : ∀ {xs : List V} {us : List Value}, Vals xs us → xs.all flatV = true → us.any (eqU x) = xs.any fun y => eqV y x
  | _, _, .nil, _ => rfl
  | y :: xs, u :: us, .cons r t, f => by
    rw [List.all_cons, Bool.and_eq_true] at f
    rw [List.any_cons, List.any_cons, eqU_of r f.1, any_eqU t f.2]
theorem mem_eqAt {A : Around} {s : Shared} {x : V} {v : Value} (rx : RelV x v) (fx : flatV x = true) : ∀ {xs : List V} {us : List Value}, Vals xs us → xs.all flatV = true → ∀ u ∈ us, SeqAt.EqAt A s u v (eqU x u)
  | _, _, .nil, _ => fun u hu => by cases hu
  | y :: xs, u :: us, .cons r t, f => fun u' hu => by
    rw [List.all_cons, Bool.and_eq_true] at f
    rcases List.mem_cons.mp hu with rfl | hu
    · rw [eqU_of r f.1]; exact eqAt_V r rx f.1 fx
    · exact mem_eqAt rx fx t f.2 u' hu
noncomputable def inV (x : V) (xs : List V) : Bool := xs.any fun y => eqV y x
noncomputable def rIn (K : PySem.W.Frag) (neg : Bool) : R2 := fun x y H Q => ∃ p xs, y = .ref p ∧ (SqL K H p xs ∨ SqT K H p xs) ∧ flatV x = true ∧ xs.all flatV = true ∧ Q (.bl (if neg then !inV x xs else inV x xs)) H
theorem op_in_seq : OpR X (compareOp .In) (rIn X.K false) := by
  intro pins s σ H x y v u Q I rx ry h
  obtain ⟨p, xs, rfl, hq, fx, fs, q⟩ := h
  cases ry
  rcases hq with hq | hq
  · obtain ⟨its, r, pl, hz⟩ := I.list hq
    refine SeqAt.in_listAt (eqU x) pl.isList (fun w hw => mem_eqAt rx fx r fs w (by simpa using hw)) ⟨.bl _, H, I, rfl, ?_⟩
    rw [show its.toArray.any (eqU x) = its.any (eqU x) by simp, any_eqU r fs]
    exact q
  · obtain ⟨its, r, pl, hz⟩ := I.tuple hq
    refine SeqAt.in_tupleAt (eqU x) pl (fun w hw => mem_eqAt rx fx r fs w (by simpa using hw)) ⟨.bl _, H, I, rfl, ?_⟩
    rw [show its.toArray.any (eqU x) = its.any (eqU x) by simp, any_eqU r fs]
    exact q
theorem call_list_of : CallR X (.type "list") (fun xs H Q => ∃ p ys, xs = [.ref p] ∧ (SqL X.K H p ys ∨ SqT X.K H p ys) ∧ ∀ l, H l = none → Q (.ref l) (upd H l (.lst ys))) := by
  intro pins s σ H xs us Q I r h
  obtain ⟨p, ys, rfl, hq, q⟩ := h
  obtain ⟨u, rfl, rx⟩ := vals1 r
  cases rx
  have fin : ∀ (its : List Value), Vals ys its → ys.length ≤ sizeLine → ∀ (h' : Heap) (c' : Nat), (∀ b o', s.heap.get? b = some o' → h'.get? b = some o') →
      h'.get? s.heap.objs.size = some { cls := .type "list", dict := none, data := .seq its.toArray c', slots := #[] } → EP X pins σ Q (.ref s.heap.objs.size) { s with heap := h' } := fun its r' hz h' c' kp e =>
    ⟨.ref s.heap.objs.size, _, I.laid (t' := s.toks) kp (Nat.le_refl _) (show ObjOk X.prog X.w _ h' _ (.lst ys) from ⟨hz, its, c', r', e⟩), rfl, q _ (I.hok.fresh (Nat.le_refl _))⟩
  rcases hq with hq | hq
  · obtain ⟨its, r', pl, hz⟩ := I.list hq
    have hlen := r'.length
    obtain ⟨o, ho, hc, n, hd⟩ := pl.isList
    exact call_list_seq p (.inl rfl) ho hc hd (fun h' c' kp e => fin its r' hz h' c' kp e) (by simp only [List.size_toArray] <;> omega)
  · obtain ⟨its, r', pl, hz⟩ := I.tuple hq
    have hlen := r'.length
    obtain ⟨o, ho, hc, n, hd⟩ := pl
    exact call_list_seq p (.inr rfl) ho hc hd (fun h' c' kp e => fin its r' hz h' c' kp e) (by simp only [List.size_toArray] <;> omega)
theorem call_tuple_of : CallR X (.type "tuple") (fun xs H Q => ∃ p ys, xs = [.ref p] ∧ ((SqL X.K H p ys ∧ ∀ l, H l = none → Q (.ref l) (upd H l (.tup ys))) ∨ (SqT X.K H p ys ∧ Q (.ref p) H))) := by
  intro pins s σ H xs us Q I r h
  obtain ⟨p, ys, rfl, h⟩ := h
  obtain ⟨u, rfl, rx⟩ := vals1 r
  cases rx
  rcases h with ⟨hq, q⟩ | ⟨hq, q⟩
  · obtain ⟨its, r', pl, hz⟩ := I.list hq
    have hlen := r'.length
    refine call_tuple_list pl.isList (fun h' kp => ?_) (by simp only [List.size_toArray] <;> omega)
    have I1 : Inv X pins σ H { s with heap := h' } := I.kept (t' := s.toks) kp
    have I2 : Inv X pins σ (upd H h'.objs.size (.tup ys)) { s with heap := h'.push { cls := .type "tuple", data := .seq its.toArray } } :=
      I1.laid (t' := s.toks) (fun b o e => Heap.get?_push_of_some _ e) (Nat.le_refl _) (show ObjOk X.prog X.w _ _ _ (.tup ys) from ⟨hz, its, r', IsTup.new _ _⟩)
    exact ⟨.ref h'.objs.size, _, I2, rfl, q _ (I1.hok.fresh (Nat.le_refl _))⟩
  · obtain ⟨its, r', pl, hz⟩ := I.tuple hq
    exact call_tuple_same pl ⟨.ref p, H, I, rfl, q⟩
noncomputable def tyV (K : PySem.W.Frag) (T : String) (x : V) (H : Hp) : Prop := match x with
  | .str _ => T = "str"
  | .int _ => T = "int"
  | .ref p => (T = "list" ∧ ∃ xs, SqL K H p xs) ∨ (T = "tuple" ∧ ∃ o, K.lookup p = some o ∧ o.cls = .type "tuple" ∧ o.dict = none) ∨
      (T = "dict" ∧ ((∃ kvs, H p = some (.dK kvs)) ∨ ∃ kvs, H p = some (.dT kvs))) ∨ (T = "set" ∧ ∃ S n, H p = some (.set S n))
  | _ => False
theorem tyV_is {pins : List (Addr × Obj)} {σ : St} {H : Hp} {s : Shared} {T : String} {x : V} {v : Value} (I : Inv X pins σ H s) (r : RelV x v) (ty : tyV X.K T x H) :
    s.TypeIs v T ∧ ∀ a, v = .ref a → ∃ ob, s.heap.get? a = some ob ∧ ob.dict = none := by
  cases x with
  | str z =>
    obtain ⟨t, rfl⟩ := r
    cases (show T = "str" from ty)
    exact ⟨typeIs_str s z t, fun _ e => nomatch e⟩
  | int i =>
    obtain ⟨t, rfl⟩ := r
    cases (show T = "int" from ty)
    exact ⟨typeIs_int s i t, fun _ e => nomatch e⟩
  | ref p =>
    cases r
    rcases ty with ⟨rfl, xs, hq⟩ | ⟨rfl, o, hk, hc, hd⟩ | ⟨rfl, hk⟩ | ⟨rfl, S, n, hk⟩
    · obtain ⟨its, _, pl, _⟩ := I.list hq
      refine ⟨pl.isList.typeIs, fun a e => ?_⟩
      cases e
      obtain ⟨o, n, e, c, hd, _⟩ := pl
      exact ⟨o, e, hd⟩
    · refine ⟨⟨o, I.kIn p o hk, hc⟩, fun a e => ?_⟩
      cases e
      exact ⟨o, I.kIn _ o hk, hd⟩
    · have z : ∃ o, s.heap.get? p = some o ∧ o.ExactDict := by
        rcases hk with ⟨kvs, hk⟩ | ⟨kvs, hk⟩
        · obtain ⟨_, _, _, _, o, _, _, e, ex, _⟩ := I.hok p _ hk
          exact ⟨o, e, ex⟩
        · obtain ⟨_, _, _, _, o, _, _, e, ex, _⟩ := I.hok p _ hk
          exact ⟨o, e, ex⟩
      obtain ⟨o, e, ex⟩ := z
      refine ⟨⟨o, e, ex.1⟩, fun a e2 => ?_⟩
      cases e2
      exact ⟨o, e, ex.2.1⟩
    · obtain ⟨o, _, _, _, e, ex, _⟩ := I.hok p _ hk
      refine ⟨⟨o, e, ex.1⟩, fun a e2 => ?_⟩
      cases e2
      exact ⟨o, e, ex.2.1⟩
  | _ => exact False.elim ty
noncomputable def tBM0 (K : PySem.W.Frag) (T : String) (r : V → List V → Hp → VK → Prop) (to : TE) : TE := fun σ H Q => to σ H fun x H1 => tyV K T x H1 ∧ r x [] H1 Q
noncomputable def tBM (K : PySem.W.Frag) (T : String) (r : V → List V → Hp → VK → Prop) (to : TE) (t : TA) : TE := fun σ H Q => to σ H fun x H1 => tyV K T x H1 ∧ t σ H1 fun xs H2 => r x xs H2 Q
variable {o e : Expr} {es : List Expr} {to : TE} {t : TA} {name : Str} {apos cpos : Pos} {T id : String} {r : V → List V → Hp → VK → Prop}
theorem pe_bm0 (pa : PlainAttrs T) (slot : Slot T name id) (hty : typeOf (.builtin id) = pure (.type "method_descriptor")) (hm : MtR X id r) (ho : PE X o to)
    (hbase : attributeBase o name X.env (eval o X.env) = eval o X.env := by rfl) (hline : (apos.endLine == cpos.line) = true := by rfl) : PE X (.Call (.Attribute o name apos) [] [] cpos) (tBM0 X.K T r to) := by
  intro pins s σ H Q I h
  refine wpAny_Call_method0_late hbase hline (thn (ho pins s σ H _ I h) fun v s1 hz34 => ?_)
  obtain ⟨x, H1, I1, r1, ty, q1⟩ := hz34
  obtain ⟨h1, h2⟩ := tyV_is I1 r1 ty
  exact ⟨T, id, pa, slot, hty, h1, h2, Calls.callWith_builtin rfl (PySem.evalArgs_none (hm pins s1 σ H1 x [] v [] Q I1 r1 .nil q1))⟩
theorem pe_bm (pa : PlainAttrs T) (slot : Slot T name id) (hty : typeOf (.builtin id) = pure (.type "method_descriptor")) (hm : MtR X id r) (ho : PE X o to) (ha : PA X (e :: es) t)
    (hbase : attributeBase o name X.env (eval o X.env) = eval o X.env := by rfl)
    (hfew : ((backTo cpos (starEach (e :: es) X.env)).all (fun x => !x.1) && (backToKw cpos (keywordEach [] X.env)).all (fun x => x.1.isSome)
      && decide ((e :: es).length + ([] : List Keyword).length + (if ([] : List Keyword).isEmpty then 0 else 1) < 30)) = true := by rfl)
    (hline : (apos.endLine == cpos.line) = true := by rfl) (hs : starEach (e :: es) X.env = (false, eval e X.env) :: starEach es X.env := by rfl) (hplain : (backTo cpos (starEach es X.env)).any (·.1) = false := by rfl) :
    PE X (.Call (.Attribute o name apos) (e :: es) [] cpos) (tBM X.K T r to t) := by
  intro pins s σ H Q I h
  refine wpAny_Call_method_late hbase hfew hline rfl (thn (ho pins s σ H _ I h) fun v s1 hz35 => ?_)
  obtain ⟨x, H1, I1, r1, ty, q1⟩ := hz35
  obtain ⟨h1, h2⟩ := tyV_is I1 r1 ty
  refine ⟨T, id, pa, slot, hty, h1, h2, ?_⟩
  have hA := ha cpos pins s1 σ H1 _ I1 q1
  rw [hs] at hA ⊢
  refine Calls.callWith_builtin (by show (false || (backTo cpos (starEach es X.env)).any (·.1)) = false; rw [hplain] <;> rfl) (Calls.evalArgs_plain ?_)
  exact thn hA fun us s2 ⟨vs, H2, I2, r2, q2⟩ => hm pins s2 σ H2 x vs v us Q I2 r1 r2 q2
end
end L2
namespace L2
open PySem PySem.Spec PyProof.Rows
noncomputable def MtM (X : Cx) (id : String) (r : V → List V → Hp → VK → Prop) : Prop :=
  ∀ (pins : List (Addr × Obj)) (s : Shared) (σ : St) (H : Hp) (x : V) (xs : List V) (v : Value) (us : List Value) (Q : VK), Inv X pins σ H s → RelV x v → Vals xs us → r x xs H Q →
    wpAny (model X.prog X.w) X.A (call (.builtin id) (v :: us)) (EP X pins σ Q) X.xe s
theorem Vals.one {x : V} {us : List Value} (h : Vals [x] us) : ∃ u, us = [u] ∧ RelV x u := by
  cases h with
  | cons r k => cases k; exact ⟨_, rfl, r⟩
theorem Vals.two {x y : V} {us : List Value} (h : Vals [x, y] us) : ∃ u v, us = [u, v] ∧ RelV x u ∧ RelV y v := by
  cases h with
  | cons r k => cases k with
    | cons q m => cases m; exact ⟨_, _, rfl, r, q⟩
theorem Vals.zero : ∀ {us : List Value}, Vals [] us → us = []
  | _, .nil => rfl
theorem Vals.dropLast {xs : List V} {us : List Value} (h : Vals xs us) : Vals xs.dropLast us.dropLast := by
  induction h with
  | nil => exact .nil
  | cons r t ih =>
    cases t with
    | nil => exact .nil
    | cons q t' => exact .cons r ih
theorem Vals.eraseIdx : ∀ {xs : List V} {us : List Value} (i : Nat), Vals xs us → Vals (xs.eraseIdx i) (us.eraseIdx i)
  | _, _, _, .nil => .nil
  | _, _, 0, .cons _ t => t
  | _, _, i + 1, .cons r t => .cons r (Vals.eraseIdx i t)
theorem erase_last {α : Type} (l : List α) : l.eraseIdx (l.length - 1) = l.dropLast := by
  induction l with
  | nil => rfl
  | cons a r ih =>
    cases r with
    | nil => rfl
    | cons b r =>
      have e : (a :: b :: r).length - 1 = ((b :: r).length - 1) + 1 := by
        have h1 : (a :: b :: r).length = r.length + 2 := rfl
        have h2 : (b :: r).length = r.length + 1 := rfl
        omega
      rw [e, List.eraseIdx_cons_succ, ih]
      all_goals rfl
theorem len_erase {α : Type} : ∀ (l : List α) (i : Nat), (l.eraseIdx i).length ≤ l.length
  | [], _ => Nat.le_refl _
  | _ :: _, 0 => Nat.le_succ _
  | _ :: r, i + 1 => Nat.succ_le_succ (len_erase r i)
section
variable {X : Cx} {pins : List (Addr × Obj)} {σ : St} {H : Hp} {s : Shared} {l b : Addr} {xs ys zs : List V}
theorem Inv.lset {its its' : List Value} {n : Nat} {f : Array Value → Array Value} {t' : Nat} (I : Inv X pins σ H s) (hH : H l = some (.lst xs))
    (e : s.heap.get? l = some { cls := .type "list", data := .seq its.toArray n }) (hf : f its.toArray = its'.toArray) (hv : Vals ys its') (hz : ys.length ≤ sizeLine) :
    Inv X pins σ (upd H l (.lst ys)) { s with heap := s.heap.update l (Obj.mapSeq f), toks := t' } := by
  have q := PySem.IsL.update e f
  rw [hf] at q
  refine I.write (x := l) (e := l) (by rw [hH]; exact trivial) (.inl rfl) (fun b' u hb hu => (Heap.get?_update_other s.heap (Obj.mapSeq f) (Ne.symm hb)).trans hu) ⟨_, q⟩ ?_
  exact ⟨hz, its', _, hv, q⟩
theorem Inv.lnew {its : List Value} {t' : Nat} (I : Inv X pins σ H s) (hv : Vals ys its) (hz : ys.length ≤ sizeLine) :
    Inv X pins σ (upd H s.heap.objs.size (.lst ys)) { s with heap := s.heap.push { cls := .type "list", data := .seq its.toArray }, toks := t' } :=
  I.laid (fun _ _ q => Heap.get?_push_of_some _ q) (Nat.le_refl _) ⟨hz, its, 0, hv, Heap.get?_push_size _ rfl⟩
theorem Inv.fresh (I : Inv X pins σ H s) : H s.heap.objs.size = none := I.hok.fresh (Nat.le_refl _)
theorem Inv.lstM (I : Inv X pins σ H s) (hH : H l = some (.lst xs)) : xs.length ≤ sizeLine ∧ ∃ (its : List Value) (n : Nat), Vals xs its ∧ xs.length = its.length ∧ s.heap.get? l = some { cls := .type "list", data := .seq its.toArray n } := by
  obtain ⟨z, its, n, r, e⟩ := I.hok l _ hH
  exact ⟨z, its, n, r, r.length, e⟩
end
section
variable {X : Cx}
noncomputable def rAppend : V → List V → Hp → VK → Prop := fun x vs H Q => ∃ l xs y, x = .ref l ∧ vs = [y] ∧ H l = some (.lst xs) ∧ xs.length < sizeLine ∧ Q .non (upd H l (.lst (xs ++ [y])))
theorem mt_append : MtM X "list.append" rAppend := by
  intro pins s σ H x vs v us Q I rx rv h
  obtain ⟨l, xs, y, rfl, rfl, hH, hz, q⟩ := h
  cases rx
  obtain ⟨u, rfl, ru⟩ := rv.one
  obtain ⟨z, its, n, r, hl, e⟩ := I.lstM hH
  refine call_meets F.slot_list_append ⟨_, e, rfl⟩ F.entry_list_append (F.args_list_append_2 _ _) (PySem.list_append l its.toArray n u (by rw [List.size_toArray]; omega)) ⟨e, ?_⟩
  refine ⟨.non, _, I.lset (its' := its ++ [u]) hH e (by simp) (r.append (.cons ru .nil)) ?_, rfl, q⟩
  rw [List.length_append, List.length_singleton]
  omega
noncomputable def rPop : V → List V → Hp → VK → Prop := fun x vs H Q => ∃ l xs y, x = .ref l ∧ vs = [] ∧ H l = some (.lst xs) ∧ xs[xs.length - 1]? = some y ∧ Q y (upd H l (.lst xs.dropLast))
theorem mt_pop : MtM X "list.pop" rPop := by
  intro pins s σ H x vs v us Q I rx rv h
  obtain ⟨l, xs, y, rfl, rfl, hH, hy, q⟩ := h
  cases rx
  have hus := rv.zero
  subst hus
  obtain ⟨z, its, n, r, hl, e⟩ := I.lstM hH
  obtain ⟨u, hu, ru⟩ := r.get hy
  have hy' : its.toArray[its.toArray.size - 1]? = some u := by
    show its.toArray[its.length - 1]? = some u
    rw [← Array.getElem?_toList, ← hl]
    exact hu
  refine call_meets F.slot_list_pop ⟨_, e, rfl⟩ F.entry_list_pop (F.args_list_pop_1 _) (MeetsSeq.list_pop_last l its.toArray n u hy' (by rw [List.size_toArray]; omega)) ⟨e, ?_⟩
  refine ⟨y, _, I.lset (its' := its.dropLast) hH e ?_ r.dropLast ?_, ru, q⟩
  · show its.toArray.eraseIdxIfInBounds (its.toArray.size - 1) = its.dropLast.toArray
    rw [List.size_toArray, List.eraseIdxIfInBounds_toArray, erase_last]
  · rw [List.length_dropLast]
    omega
noncomputable def rPopAt : V → List V → Hp → VK → Prop := fun x vs H Q => ∃ l xs i k y, x = .ref l ∧ vs = [.int i] ∧ H l = some (.lst xs) ∧ -(2 ^ 63) ≤ i ∧ i < 2 ^ 63 ∧ seqIndex? i xs.length = some k ∧ xs[k]? = some y ∧ Q y (upd H l (.lst (xs.eraseIdx k)))
theorem mt_popAt : MtM X "list.pop" rPopAt := by
  intro pins s σ H x vs v us Q I rx rv h
  obtain ⟨l, xs, i, k, y, rfl, rfl, hH, h1, h2, hk, hy, q⟩ := h
  cases rx
  obtain ⟨u, rfl, ru⟩ := rv.one
  obtain ⟨t, rfl⟩ := ru
  obtain ⟨z, its, n, r, hl, e⟩ := I.lstM hH
  obtain ⟨w, hw, rw'⟩ := r.get hy
  refine call_meets F.slot_list_pop ⟨_, e, rfl⟩ F.entry_list_pop (F.args_list_pop_2 _ _)
    (MeetsSeq.list_pop_at l its.toArray n i t k w (fitsIndex_both h1 h2) (by rw [List.size_toArray, ← hl]; exact hk) (by rw [← Array.getElem?_toList]; exact hw) (by rw [List.size_toArray]; omega)) ⟨e, ?_⟩
  refine ⟨y, _, I.lset (its' := its.eraseIdx k) hH e ?_ (r.eraseIdx k) ?_, rw', q⟩
  · show its.toArray.eraseIdxIfInBounds k = (its.eraseIdx k).toArray
    rw [List.eraseIdxIfInBounds_toArray]
  · have := len_erase xs k
    omega
noncomputable def rCat : R2 := fun x y H Q => ∃ l b xs zs, x = .ref l ∧ y = .ref b ∧ H l = some (.lst xs) ∧ H b = some (.lst zs) ∧ xs.length + zs.length ≤ sizeLine ∧ ∀ p, H p = none → Q (.ref p) (upd H p (.lst (xs ++ zs)))
theorem op_cat : OpR X (binaryOp .Add) rCat := by
  intro pins s σ H x y v u Q I rx ry h
  obtain ⟨l, b, xs, zs, rfl, rfl, hH, hB, hz, q⟩ := h
  cases rx
  cases ry
  obtain ⟨z, its, n, r, hl, e⟩ := I.lstM hH
  obtain ⟨z2, its2, n2, r2, hl2, e2⟩ := I.lstM hB
  refine PySem.P.add_list e e2 ?_ (by rw [List.size_toArray, List.size_toArray]; omega)
  have ea : its.toArray ++ its2.toArray = (its ++ its2).toArray := by simp
  rw [ea]
  exact ⟨.ref _, _, I.lnew (t' := s.toks) (r.append r2) (by rw [List.length_append]; omega), rfl, q _ I.fresh⟩
end
section
variable {prog : Program} {w : World} {A : Around} {E : Value → Shared → Prop} {s : Shared}
end
section
variable {X : Cx}
end
end L2
namespace L2
open PySem PySem.Spec PyProof.Rows
section
variable {κ : Type} [DecidableEq κ]
noncomputable def valV (kvs : List (κ × V)) (k : κ) : Option V := (kvs.find? fun kv => decide (kv.1 = k)).map (·.2)
noncomputable def putK (kvs : List (κ × V)) (k : κ) (v : V) : List (κ × V) :=
  if (kvs.any fun kv => decide (kv.1 = k)) = true then kvs.map (fun kv => if kv.1 = k then (kv.1, v) else kv) else kvs ++ [(k, v)]
theorem valV_pos {p : κ × V} {r : List (κ × V)} {k : κ} (e : p.1 = k) : valV (p :: r) k = some p.2 := by simp [valV, List.find?_cons, e]
theorem valV_neg {p : κ × V} {r : List (κ × V)} {k : κ} (e : ¬ p.1 = k) : valV (p :: r) k = valV r k := by simp [valV, List.find?_cons, e]
theorem valV_any (k : κ) : ∀ kvs : List (κ × V), (kvs.any fun kv => decide (kv.1 = k)) = (valV kvs k).isSome
  | [] => rfl
  | p :: r => by
    rw [List.any_cons]
    by_cases e : p.1 = k
    · simp only [valV_pos e, decide_eq_true e, Bool.true_or, Option.isSome_some]
    · rw [valV_neg e, decide_eq_false e, Bool.false_or]; exact valV_any k r
theorem length_putK (kvs : List (κ × V)) (k : κ) (v : V) : (putK kvs k v).length ≤ kvs.length + 1 := by
  unfold putK
  split
  · rw [List.length_map]; omega
  · rw [List.length_append, List.length_cons, List.length_nil]; omega
theorem RelO.isSome_eq {o : Option V} {u : Option Value} (r : RelO o u) : o.isSome = u.isSome := by
  cases o with
  | none => cases u with
    | none => rfl
    | some _ => exact (show False from r).elim
  | some _ => cases u with
    | none => exact (show False from r).elim
    | some _ => rfl
theorem KV.val {kvs : List (κ × V)} {vs : List (κ × Value)} (r : KV kvs vs) (k : κ) : RelO (valV kvs k) (valueAt vs k) := by
  unfold KV at r
  induction r with
  | nil => exact True.intro
  | @cons p q ps qs h t ih =>
    obtain ⟨h1, h2⟩ := h
    by_cases e : p.1 = k
    · have e' : q.1 = k := h1.symm.trans e
      have b : valueAt (q :: qs) k = some q.2 := by simp [valueAt, List.find?_cons, e']
      rw [valV_pos e, b]; exact h2
    · have e' : ¬ q.1 = k := fun z => e (h1.trans z)
      have b : valueAt (q :: qs) k = valueAt qs k := by simp [valueAt, List.find?_cons, e']
      rw [valV_neg e, b]; exact ih
theorem KV.any {kvs : List (κ × V)} {vs : List (κ × Value)} (r : KV kvs vs) (k : κ) : (kvs.any fun kv => decide (kv.1 = k)) = vs.any fun kv => decide (kv.1 = k) := by
  unfold KV at r
  induction r with
  | nil => rfl
  | cons h t ih => rw [List.any_cons, List.any_cons, ih, h.1]
theorem KV.repl {kvs : List (κ × V)} {vs : List (κ × Value)} (r : KV kvs vs) (k : κ) {y : V} {u : Value} (ry : RelV y u) :
    KV (kvs.map fun kv => if kv.1 = k then (kv.1, y) else kv) (vs.map fun kv => if kv.1 = k then (kv.1, u) else kv) := by
  unfold KV at r ⊢
  induction r with
  | nil => exact .nil
  | @cons p q ps qs h t ih =>
    rw [List.map_cons, List.map_cons]
    refine .cons ?_ ih
    obtain ⟨h1, h2⟩ := h
    by_cases e : p.1 = k
    · rw [if_pos e, if_pos (h1.symm.trans e)]; exact ⟨h1, ry⟩
    · rw [if_neg e, if_neg (fun z => e (h1.trans z))]; exact ⟨h1, h2⟩
theorem KV.put {kvs : List (κ × V)} {vs : List (κ × Value)} (r : KV kvs vs) (k : κ) {y : V} {u : Value} (ry : RelV y u) : KV (putK kvs k y) (stored vs k u) := by
  unfold putK stored
  rw [r.any k]
  by_cases e : (vs.any fun kv => decide (kv.1 = k)) = true
  · rw [if_pos e, if_pos e]; exact r.repl k ry
  · rw [if_neg e, if_neg e]; exact Paired.snoc r ⟨rfl, ry⟩
theorem KV.length {kvs : List (κ × V)} {vs : List (κ × Value)} (r : KV kvs vs) : kvs.length = vs.length := Paired.length r
end
theorem kV_is {P : Program} {w : World} {k : Key} {u : Value} (r : RelV (kV k) u) : (mixKind P w).is k u = true := by
  cases k with
  | inl i => obtain ⟨t, e⟩ := (show ∃ t, u = Value.int i t from r); subst e; exact mixKind_int P w i t
  | inr x => obtain ⟨t, e⟩ := (show ∃ t, u = Value.str x t from r); subst e; exact mixKind_str P w x t
theorem items_are {P : Program} {w : World} : ∀ {ks : List Key} {us : List Value}, Vals (ks.map kV) us → ItemsAre (mixKind P w) ks us
  | [], _, r => by rw [List.map_nil] at r; cases r; exact .nil
  | k :: ks, _, r => by
    rw [List.map_cons] at r
    cases r with
    | cons h t => exact .cons (kV_is h) (items_are t)
noncomputable abbrev KT (H : Hp) : List (List Key × V) → List (List Key × Addr × Value) → Prop := Paired fun p q => p.1 = q.1 ∧ H q.2.1 = some (.tup (p.1.map kV)) ∧ RelV p.2 q.2.2
theorem KT.val {H : Hp} {kvs : List (List Key × V)} {xs : List (List Key × Addr × Value)} (r : KT H kvs xs) (k : List Key) : RelO (valV kvs k) ((atKey xs k).map (·.2)) := by
  induction r with
  | nil => exact True.intro
  | @cons p q ps qs h t ih =>
    obtain ⟨h1, _, h2⟩ := h
    by_cases e : p.1 = k
    · have e' : q.1 = k := h1.symm.trans e
      have b : atKey (q :: qs) k = some q.2 := by simp [atKey, List.find?_cons, e']
      rw [valV_pos e, b]; exact h2
    · have e' : ¬ q.1 = k := fun z => e (h1.trans z)
      have b : atKey (q :: qs) k = atKey qs k := by simp [atKey, List.find?_cons, e']
      rw [valV_neg e, b]; exact ih
theorem KT.repl {H : Hp} {kvs : List (List Key × V)} {xs : List (List Key × Addr × Value)} (r : KT H kvs xs) (k : List Key) {y : V} {u : Value} (ry : RelV y u) :
    KT H (kvs.map fun kv => if kv.1 = k then (kv.1, y) else kv) (xs.map (putAt k u)) := by
  induction r with
  | nil => exact .nil
  | @cons p q ps qs h t ih =>
    rw [List.map_cons, List.map_cons]
    refine .cons ?_ ih
    obtain ⟨h1, h2, h3⟩ := h
    unfold putAt
    by_cases e : p.1 = k
    · rw [if_pos e, if_pos (h1.symm.trans e)]; exact ⟨h1, h2, ry⟩
    · rw [if_neg e, if_neg (fun z => e (h1.trans z))]; exact ⟨h1, h2, h3⟩
theorem KT.put {H : Hp} {kvs : List (List Key × V)} {xs : List (List Key × Addr × Value)} (r : KT H kvs xs) (k : List Key) {b : Addr} {y : V} {u : Value} (hb : H b = some (.tup (k.map kV))) (ry : RelV y u) :
    KT H (putK kvs k y) (storedH xs k b u) := by
  have e : (kvs.any fun kv => decide (kv.1 = k)) = (atKey xs k).isSome := by
    rw [valV_any, (r.val k).isSome_eq, Option.isSome_map]
  unfold putK storedH
  rw [e]
  by_cases q : (atKey xs k).isSome = true
  · rw [if_pos q, if_pos q]; exact r.repl k ry
  · rw [if_neg q, if_neg q]; exact Paired.snoc r ⟨rfl, hb, ry⟩
theorem KT.keeps {H H' : Hp} {kvs : List (List Key × V)} {xs : List (List Key × Addr × Value)} (r : KT H kvs xs) (ht : ∀ b ys, H b = some (.tup ys) → H' b = some (.tup ys)) : KT H' kvs xs :=
  Paired.mapP r fun _ _ z => ⟨z.1, ht _ _ z.2.1, z.2.2⟩
section
variable {P : Program} {w : World} {H : Hp} {h : Heap} {a : Addr}
theorem rd_of {u : HO} (ok : HOk P w H h) (e : Rd H a u) : ObjOk P w H h a u := e.ok ok
theorem dk_rd {kvs : List (Key × V)} (ok : HOk P w H h) (e : Rd H a (.dK kvs)) : kvs.length ≤ sizeLine ∧ (a == sysModules) = false ∧ ∃ vs, KV kvs vs ∧ h.DictOf (mixKind P w) a vs :=
  show ObjOk P w H h a (.dK kvs) from rd_of ok e
theorem dk_of {kvs : List (Key × V)} (ok : HOk P w H h) (e : H a = some (.dK kvs)) : kvs.length ≤ sizeLine ∧ (a == sysModules) = false ∧ ∃ vs, KV kvs vs ∧ h.DictOf (mixKind P w) a vs := dk_rd ok (.inl e)
theorem key_of {ks : List Key} (ok : HOk P w H h) (e : H a = some (.tup (ks.map kV))) : (tupleKind (mixKind P w)).is h ks a := by
  obtain ⟨_, its, r, o, h1, h2, n, h3⟩ := (show ObjOk P w H h a (.tup (ks.map kV)) from ok a _ e)
  exact ⟨o, its.toArray, n, h1, h2, h3, by simpa using items_are r⟩
theorem dt_rd {kvs : List (List Key × V)} (ok : HOk P w H h) (e : Rd H a (.dT kvs)) : kvs.length ≤ sizeLine ∧ (a == sysModules) = false ∧
    ∃ xs, KT H kvs xs ∧ h.DictOfH (tupleKind (mixKind P w)) a xs := by
  obtain ⟨z, y, xs, r, o, es, ep, h1, h2, h3, h4, h5⟩ := (show ObjOk P w H h a (.dT kvs) from rd_of ok e)
  refine ⟨z, y, xs, r, o, es, ep, h1, h2, h3, h4, fun x hx => ?_, h5⟩
  have all : ∀ {l : List (List Key × V)} {m : List (List Key × Addr × Value)}, KT H l m → ∀ x ∈ m, (tupleKind (mixKind P w)).is h x.1 x.2.1 := by
    intro l m q
    induction q with
    | nil => intro x hx; exact nomatch hx
    | @cons p q ps qs hq t ih =>
      intro x hx
      rcases List.mem_cons.mp hx with e | hx
      · subst e
        exact key_of ok (by rw [← hq.1]; exact hq.2.1)
      · exact ih x hx
  exact all r x hx
theorem dt_of {kvs : List (List Key × V)} (ok : HOk P w H h) (e : H a = some (.dT kvs)) : kvs.length ≤ sizeLine ∧ (a == sysModules) = false ∧
    ∃ xs, KT H kvs xs ∧ h.DictOfH (tupleKind (mixKind P w)) a xs := dt_rd ok (.inl e)
end
noncomputable def DGet (H : Hp) (a : Addr) (y : V) (r : Option V) : Prop :=
  (∃ kvs k, Rd H a (.dK kvs) ∧ y = kV k ∧ r = valV kvs k) ∨ ∃ kvs k b, Rd H a (.dT kvs) ∧ y = .ref b ∧ H b = some (.tup (k.map kV)) ∧ r = valV kvs k
noncomputable def DPut (H : Hp) (a : Addr) (y v : V) (H' : Hp) : Prop :=
  (∃ kvs k, H a = some (.dK kvs) ∧ y = kV k ∧ kvs.length < sizeLine ∧ H' = upd H a (.dK (putK kvs k v))) ∨
  ∃ kvs k b, H a = some (.dT kvs) ∧ y = .ref b ∧ H b = some (.tup (k.map kV)) ∧ kvs.length < sizeLine ∧ H' = upd H a (.dT (putK kvs k v))
theorem DGet.k {H : Hp} {a : Addr} {kvs : List (Key × V)} {k : Key} (e : H a = some (.dK kvs)) : DGet H a (kV k) (valV kvs k) := .inl ⟨kvs, k, .inl e, rfl, rfl⟩
theorem DPut.k {H : Hp} {a : Addr} {kvs : List (Key × V)} {k : Key} {v : V} (e : H a = some (.dK kvs)) (hl : kvs.length < sizeLine) : DPut H a (kV k) v (upd H a (.dK (putK kvs k v))) := .inl ⟨kvs, k, e, rfl, hl, rfl⟩
section
variable {X : Cx} {pins : List (Addr × Obj)} {σ : St} {H : Hp} {s : Shared} {a : Addr} {y v : V} {u r : Value} {o : Option V} {A : Around} {E : Value → Shared → Prop}
theorem Inv.big (I : Inv X pins σ H s) : sysModules < s.heap.objs.size := by
  have h : mainGlobals < s.heap.objs.size := (I.mod.glob.keeps I.bk).lt
  exact Nat.lt_trans (by decide) h
theorem d_getItem {Q : Value → Shared → Prop} (hu : A.units + 1 < cLine) (I : Inv X pins σ H s) (g : DGet H a y (some v)) (ry : RelV y u) (h : ∀ w' s', Inv X pins σ H s' → RelV v w' → Q w' s') :
    wpAny (model X.prog X.w) A (getItem (.ref a) u) Q E s := by
  rcases g with ⟨kvs, k, e, ey, l⟩ | ⟨kvs, k, b, e, ey, eb, l⟩
  · subst ey
    obtain ⟨z, hd, vs, rel, dd⟩ := dk_rd I.hok e
    obtain ⟨w', hw, rw'⟩ := RelO.some_of (v := v) (o := valueAt vs k) (by rw [l]; exact rel.val k)
    exact wpAny_getItem_of (kV_is ry) dd.mapOf hw (h w' _ (I.tok _) rw')
  · subst ey
    cases (show u = Value.ref b from ry)
    obtain ⟨z, hd, xs, rel, dd⟩ := dt_rd I.hok e
    obtain ⟨w', hw, rw'⟩ := RelO.some_of (v := v) (o := (atKey xs k).map (·.2)) (by rw [l]; exact rel.val k)
    obtain ⟨p, hp, hp2⟩ := Option.map_eq_some_iff.mp hw
    refine wpAny_getItem_heap (tupleKind_room_in1 hu) (key_of I.hok eb) dd hp ?_
    rw [hp2]
    exact h w' _ (I.tok _) rw'
theorem d_in {Q : Value → Shared → Prop} (hu : A.units + 1 < cLine) (I : Inv X pins σ H s) (g : DGet H a y o) (ry : RelV y u) (h : ∀ s', Inv X pins σ H s' → Q (.bool o.isSome) s') :
    wpAny (model X.prog X.w) A (compareOp .In u (.ref a)) Q E s := by
  rcases g with ⟨kvs, k, e, ey, l⟩ | ⟨kvs, k, b, e, ey, eb, l⟩
  · subst ey
    obtain ⟨z, hd, vs, rel, dd⟩ := dk_rd I.hok e
    refine wpAny_in_of (kV_is ry) hd dd.mapOf ?_
    rw [← (rel.val k).isSome_eq, ← l]
    exact h _ (I.tok _)
  · subst ey
    cases (show u = Value.ref b from ry)
    obtain ⟨z, hd, xs, rel, dd⟩ := dt_rd I.hok e
    refine wpAny_in_heap (tupleKind_room_in1 hu) (key_of I.hok eb) hd dd ?_
    have q := (rel.val k).isSome_eq
    rw [Option.isSome_map] at q
    rw [← q, ← l]
    exact h _ (I.tok _)
theorem d_notIn {Q : Value → Shared → Prop} (hu : A.units + 1 < cLine) (I : Inv X pins σ H s) (g : DGet H a y o) (ry : RelV y u) (h : ∀ s', Inv X pins σ H s' → Q (.bool (!o.isSome)) s') :
    wpAny (model X.prog X.w) A (compareOp .NotIn u (.ref a)) Q E s := by
  rcases g with ⟨kvs, k, e, ey, l⟩ | ⟨kvs, k, b, e, ey, eb, l⟩
  · subst ey
    obtain ⟨z, hd, vs, rel, dd⟩ := dk_rd I.hok e
    refine wpAny_notIn_of (kV_is ry) hd dd.mapOf ?_
    rw [← (rel.val k).isSome_eq, ← l]
    exact h _ (I.tok _)
  · subst ey
    cases (show u = Value.ref b from ry)
    obtain ⟨z, hd, xs, rel, dd⟩ := dt_rd I.hok e
    refine wpAny_notIn_heap (tupleKind_room_in1 hu) (key_of I.hok eb) hd dd ?_
    have q := (rel.val k).isSome_eq
    rw [Option.isSome_map] at q
    rw [← q, ← l]
    exact h _ (I.tok _)
theorem d_write {h' : Heap} {t' : Nat} {ob : HO} (I : Inv X pins σ H s) (mu : Mut (H a)) (hs : Heap.SameBut a s.heap h') (he : ∃ q, h'.get? a = some q) (new : ObjOk X.prog X.w (upd H a ob) h' a ob) :
    Inv X pins σ (upd H a ob) { s with heap := h', toks := t' } :=
  I.write (x := a) (e := a) mu (.inl rfl) (fun b q hb z => (hs.2 b hb).trans z) he new
theorem dk_new {P : Program} {w : World} {H' : Hp} {h' : Heap} {kvs : List (Key × V)} {vs : List (Key × Value)} (z : kvs.length ≤ sizeLine) (hd : (a == sysModules) = false) (rel : KV kvs vs) (dd : h'.DictOf (mixKind P w) a vs) :
    ObjOk P w H' h' a (.dK kvs) := ⟨z, hd, vs, rel, dd⟩
theorem d_setItem {H' : Hp} {Q : Unit → Shared → Prop} (hu : A.units + 1 < cLine) (I : Inv X pins σ H s) (g : DPut H a y v H') (ry : RelV y u) (rv : RelV v r) (h : ∀ s', Inv X pins σ H' s' → Q () s') :
    wpAny (model X.prog X.w) A (setItem (.ref a) u r) Q E s := by
  rcases g with ⟨kvs, k, e, ey, l, eH⟩ | ⟨kvs, k, b, e, ey, eb, l, eH⟩
  · subst ey eH
    obtain ⟨z, hd, vs, rel, dd⟩ := dk_of I.hok e
    have hz : vs.length ≤ sizeLine := by rw [← rel.length]; exact z
    have hl : (putK kvs k v).length ≤ sizeLine := by have := length_putK kvs k v; omega
    refine wpAny_setItem_pairs (hsz := hz) (kV_is ry) dd fun h' dd' hs => h _ ?_
    have he : ∃ q, h'.get? a = some q := let ⟨q, _, _, hq, _⟩ := dd'; ⟨q, hq⟩
    exact d_write I (by rw [e]; exact True.intro) hs he (dk_new hl hd (rel.put k rv) dd')
  · subst ey eH
    cases (show u = Value.ref b from ry)
    obtain ⟨z, hd, xs, rel, dd⟩ := dt_of I.hok e
    have hz : xs.length ≤ sizeLine := by rw [← Paired.length rel]; exact z
    have hl : (putK kvs k v).length ≤ sizeLine := by have := length_putK kvs k v; omega
    refine wpAny_setItem_heap (hsz := hz) (tupleKind_room_in1 hu) (key_of I.hok eb) dd fun h' dd' hs => h _ ?_
    obtain ⟨q, es, ep, hq, h2, h3, h4, _, h5⟩ := dd'
    refine d_write I (by rw [e]; exact True.intro) hs ⟨q, hq⟩ ⟨hl, hd, _, (rel.put k eb rv).keeps fun c ys ec => ?_, q, es, ep, hq, h2, h3, h4, h5⟩
    rw [upd_ne (ne_of ec e (fun z => nomatch z))]
    exact ec
end
section
variable {X : Cx} {pins : List (Addr × Obj)} {σ : St} {H : Hp} {s : Shared} {a : Addr} {kvs : List (Key × V)} {k : Key} {u : Value} {A : Around} {E : Value → Shared → Prop}
end
noncomputable def NoSl (i : Expr) : Prop := ∀ ov iv, subscripted i false ov iv = operate [ov, iv] (getItem ov iv)
theorem subD_of {prog : Program} {w : World} {A : Around} {E : Value → Shared → Prop} {s : Shared} {env : Env} {value slice : Expr} {pos : Pos} {T id : String} {Q : Value → Shared → Prop}
    (hl : typeLookup (.type T) "__getitem__" = pure (some (.builtin id))) (hs : NoSl slice)
    (h : wpAny (model prog w) A (eval value env) (fun o s₁ => wpAny (model prog w) A (eval slice env) (fun i s₂ => s₂.TypeIs o T ∧ wpAny (model prog w) A (getItem o i) Q E s₂) E s₁) E s) :
    wpAny (model prog w) A (eval (.Subscript value slice pos) env) Q E s := by
  refine Subscript_ (wpAny_mono h (fun o s₁ h₁ => wpAny_mono h₁ (fun i s₂ h₂ => ?_) fun _ _ x => x) fun _ _ x => x)
  obtain ⟨hT, h₂⟩ := h₂
  unfold subscriptTail
  refine wpAny_bind ?_
  rw [getitemInPython_of_ne hT.not_modules]
  refine wpAny_bind (wpAny_specialOf hT hl ?_)
  have fin : wpAny (model prog w) A (subscripted slice false o i) (fun r s₃ => wpAny (model prog w) A (letTemporaryGo value o r >>= fun _ => pure r) Q E s₃) E s₂ := by
    rw [hs o i]
    exact wpAny_operating (wpAny_mono h₂ (fun r s₃ h₃ => wpAny_bind (wpAny_letTemporaryGo (wpAny_pure h₃))) fun _ _ x => x)
  first
    | exact wpAny_pure (wpAny_bind fin)
    | exact wpAny_bind (wpAny_pure (wpAny_bind fin))
    | exact wpAny_bind fin
theorem dict_typeIs {X : Cx} {pins : List (Addr × Obj)} {σ : St} {H : Hp} {s : Shared} {a : Addr} {y : V} {o : Option V} (I : Inv X pins σ H s) (g : DGet H a y o) : s.TypeIs (.ref a) "dict" := by
  rcases g with ⟨kvs, k, e, _, _⟩ | ⟨kvs, k, b, e, _, _, _⟩
  · obtain ⟨_, _, vs, _, dd⟩ := dk_rd I.hok e
    exact dd.typeIs
  · obtain ⟨_, _, xs, _, dd⟩ := dt_rd I.hok e
    exact dd.typeIs
noncomputable def tDGet (td ty : TE) : TE := fun σ H Q => td σ H fun x H1 => ty σ H1 fun y H2 => ∃ a v, x = .ref a ∧ DGet H2 a y (some v) ∧ Q v H2
noncomputable def tDIn (ty td : TE) : TE := fun σ H Q => ty σ H fun y H1 => td σ H1 fun x H2 => ∃ a o, x = .ref a ∧ DGet H2 a y o ∧ Q (.bl o.isSome) H2
noncomputable def tDNotIn (ty td : TE) : TE := fun σ H Q => ty σ H fun y H1 => td σ H1 fun x H2 => ∃ a o, x = .ref a ∧ DGet H2 a y o ∧ Q (.bl (!o.isSome)) H2
noncomputable def sDPut (td ty tv : TE) : TS := fun D σ H => tv σ H fun v H1 => td σ H1 fun x H2 => ty σ H2 fun y H3 => ∃ a H4, x = .ref a ∧ DPut H3 a y v H4 ∧ D.nx σ H4
section
variable {X : Cx} {o i e value : Expr} {pos pos' tpos : Pos} {td ty tv : TE}
theorem pe_dget (hu : X.A.units + 1 < cLine) (ho : PE X o td) (hi : PE X i ty) (hs : NoSl i) : PE X (.Subscript o i pos) (tDGet td ty) := by
  intro pins s σ H Q I h
  refine subD_of PySem.F.slot_dict_getitem.lookup hs (thn (ho pins s σ H _ I h) fun u s1 hz36 => ?_)
  obtain ⟨x, H1, I1, rx, q1⟩ := hz36
  refine thn (hi pins s1 σ H1 _ I1 q1) fun iv s2 hz37 => ?_
  obtain ⟨y, H2, I2, ry, a, v, ex, g, q2⟩ := hz37
  subst ex
  obtain rfl : u = Value.ref a := rx
  exact ⟨dict_typeIs I2 g, d_getItem hu I2 g ry fun w' s3 I3 rw' => ⟨v, H2, I3, rw', q2⟩⟩
theorem pc_din (hu : X.A.units + 1 < cLine) (hi : PE X i ty) (ho : PE X o td) : PC X .In i o (tDIn ty td) := by
  intro pins s σ H Q I h
  refine thn (hi pins s σ H _ I h) fun iv s1 hz38 => ?_
  obtain ⟨y, H1, I1, ry, q1⟩ := hz38
  refine thn (ho pins s1 σ H1 _ I1 q1) fun u s2 hz39 => ?_
  obtain ⟨x, H2, I2, rx, a, ov, ex, g, q2⟩ := hz39
  subst ex
  obtain rfl : u = Value.ref a := rx
  exact d_in hu I2 g ry fun s3 I3 => ⟨.bl ov.isSome, H2, I3, rfl, q2⟩
theorem pc_dnotin (hu : X.A.units + 1 < cLine) (hi : PE X i ty) (ho : PE X o td) : PC X .NotIn i o (tDNotIn ty td) := by
  intro pins s σ H Q I h
  refine thn (hi pins s σ H _ I h) fun iv s1 hz40 => ?_
  obtain ⟨y, H1, I1, ry, q1⟩ := hz40
  refine thn (ho pins s1 σ H1 _ I1 q1) fun u s2 hz41 => ?_
  obtain ⟨x, H2, I2, rx, a, ov, ex, g, q2⟩ := hz41
  subst ex
  obtain rfl : u = Value.ref a := rx
  exact d_notIn hu I2 g ry fun s3 I3 => ⟨.bl (!ov.isSome), H2, I3, rfl, q2⟩
theorem ps_dput (hu : X.A.units + 1 < cLine) (ho : PE X o td) (hi : PE X i ty) (hv : PE X value tv) (hs : swapsWith value (some (.Subscript o i pos')) pos.line X.env = pure false) :
    PS X (.Assign [.Subscript o i pos'] value pos) (sDPut td ty tv) := by
  intro pins s σ H D I h
  refine wpAny_Assign_Subscript (thn (hv pins s σ H _ I h) fun r s1 hz42 => ?_) hs
  obtain ⟨v, H1, I1, rv, q1⟩ := hz42
  refine thn (ho pins s1 σ H1 _ I1 q1) fun u s2 hz43 => ?_
  obtain ⟨x, H2, I2, rx, q2⟩ := hz43
  refine thn (hi pins s2 σ H2 _ I2 q2) fun iv s3 hz44 => ?_
  obtain ⟨y, H3, I3, ry, a, H4, ex, g, q3⟩ := hz44
  subst ex
  obtain rfl : u = Value.ref a := rx
  exact d_setItem hu I3 g ry rv fun s4 I4 => ⟨σ, H4, I4, q3⟩
end
theorem dk_empty {P : Program} {w : World} {H : Hp} (h : Heap) (hb : sysModules < h.objs.size) : ObjOk P w H (h.push { cls := .type "dict", data := .dict #[] }) h.objs.size (.dK []) :=
  ⟨Nat.zero_le _, beq_eq_false_iff_ne.mpr (Ne.symm (Nat.ne_of_lt hb)), [], .nil, Heap.DictOf.new h⟩
section
variable {X : Cx} {pos : Pos}
end
noncomputable def tPairs : List (TE × TE) → St → Hp → (List (V × V) → Hp → Prop) → Prop
  | [], _, H, Q => Q [] H
  | (tk, tv) :: r, σ, H, Q => tk σ H fun x H1 => tv σ H1 fun y H2 => tPairs r σ H2 fun ps H3 => Q ((x, y) :: ps) H3
noncomputable abbrev VV : List (V × V) → List (Value × Value) → Prop := Paired fun p q => RelV p.1 q.1 ∧ RelV p.2 q.2
noncomputable def PPs (X : Cx) (pos : Pos) (keys : List (Option Expr)) (values : List Expr) (trs : List (TE × TE)) : Prop :=
  ∀ (pins : List (Addr × Obj)) (s : Shared) (σ : St) (H : Hp) (Q : List (V × V) → Hp → Prop), Inv X pins σ H s → tPairs trs σ H Q →
    wpAny (model X.prog X.w) X.A (evalPairs (pairTrees keys values X.env pos)) (fun vs s' => ∃ ps H', Inv X pins σ H' s' ∧ VV ps vs ∧ Q ps H') X.xe s
theorem pps_nil {X : Cx} {pos : Pos} : PPs X pos [] [] [] := fun pins s σ H Q I h => pairTrees_nil_walk ⟨[], H, I, .nil, h⟩
theorem pps_cons {X : Cx} {pos : Pos} {k v : Expr} {ks : List (Option Expr)} {vs : List Expr} {tk tv : TE} {trs : List (TE × TE)} (hk : PE X k tk) (hv : PE X v tv) (hr : PPs X pos ks vs trs) :
    PPs X pos (some k :: ks) (v :: vs) ((tk, tv) :: trs) := fun pins s σ H Q I h =>
  pairTrees_cons_walk (thn (hk pins s σ H _ I h) fun u s1 ⟨x, H1, I1, rx, q1⟩ => thn (hv pins s1 σ H1 _ I1 q1) fun w2 s2 ⟨y, H2, I2, ry, q2⟩ =>
    thn (hr pins s2 σ H2 _ I2 q2) fun ws s3 ⟨ps, H3, I3, rel, q3⟩ => ⟨(x, y) :: ps, H3, I3, .cons ⟨rx, ry⟩ rel, q3⟩)
noncomputable def mergeK (kvs more : List (Key × V)) : List (Key × V) := more.foldl (fun acc kv => putK acc kv.1 kv.2) kvs
theorem KV.merge : ∀ {more : List (Key × V)} {rs : List (Key × Value)} {kvs : List (Key × V)} {vs : List (Key × Value)}, KV more rs → KV kvs vs → KV (mergeK kvs more) (merged vs rs) := by
  intro more rs kvs vs r
  unfold KV at r
  induction r generalizing kvs vs with
  | nil => intro q; exact q
  | @cons p q ps qs h t ih =>
    intro r0
    have e : KV (putK kvs p.1 p.2) (stored vs q.1 q.2) := by
      have := r0.put p.1 h.2
      rw [← h.1]; exact this
    exact ih e
theorem length_mergeK : ∀ (more kvs : List (Key × V)), (mergeK kvs more).length ≤ kvs.length + more.length
  | [], kvs => by show kvs.length ≤ kvs.length + 0; omega
  | p :: r, kvs => by
    have h1 := length_mergeK r (putK kvs p.1 p.2)
    have h2 := length_putK kvs p.1 p.2
    show (mergeK (putK kvs p.1 p.2) r).length ≤ _
    rw [List.length_cons]; omega
theorem carries_of {P : Program} {w : World} : ∀ {kvs : List (Key × V)} {ws : List (Value × Value)}, VV (kvs.map fun kv => (kV kv.1, kv.2)) ws → ∃ rs, Carries (mixKind P w) ws rs ∧ KV kvs rs
  | [], _, r => by rw [List.map_nil] at r; cases r; exact ⟨[], True.intro, .nil⟩
  | p :: kvs, _, r => by
    rw [List.map_cons] at r
    cases r with
    | @cons a b as bs h t =>
      obtain ⟨rs, c, q⟩ := carries_of (P := P) (w := w) t
      obtain ⟨b1, b2⟩ := b
      exact ⟨(p.1, b2) :: rs, ⟨kV_is h.1, rfl, c⟩, .cons ⟨rfl, h.2⟩ q⟩
noncomputable def tDisp (trs : List (TE × TE)) : TE := fun σ H Q => ∀ p, H p = none → tPairs trs σ (upd H p (.dK [])) fun ps H2 => H2 p = some (.dK []) ∧ ∃ kvs : List (Key × V), ps = kvs.map (fun kv => (kV kv.1, kv.2)) ∧ kvs.length ≤ 15 ∧ Q (.ref p) (upd H2 p (.dK (mergeK [] kvs)))
theorem pe_disp {X : Cx} {pos : Pos} {keys : List (Option Expr)} {values : List Expr} {trs : List (TE × TE)} (h : PPs X pos keys values trs) (hall : keys.all (·.isSome) = true) (hl : keys.length = values.length) (h0 : keys ≠ [])
    (h15 : keys.length ≤ 15) : PE X (.Dict keys values pos) (tDisp trs) := by
  intro pins s σ H Q I q
  have hn := I.hok.fresh (Nat.le_refl s.heap.objs.size)
  have I1 := I.laid (a := s.heap.objs.size) (o := .dK []) (h' := s.heap.push { cls := .type "dict", data := .dict #[] }) (t' := s.toks) (fun _ _ q => Heap.get?_push_of_some _ q) (Nat.le_refl _) (dk_empty s.heap I.big)
  refine wpAny_Dict_walk (knd := mixKind X.prog X.w) hall hl h0 h15 (thn (h pins _ σ _ _ I1 (q _ hn)) fun ws s2 hz45 => ?_)
  obtain ⟨ps, H2, I2, rel, e, kvs, ep, lk, q2⟩ := hz45
  subst ep
  obtain ⟨rs, c, rk⟩ := carries_of (P := X.prog) (w := X.w) rel
  obtain ⟨z, hd, vs0, r0, dd⟩ := dk_of I2.hok e
  cases r0
  refine ⟨rs, c, dd, fun h' dd' hs => ⟨.ref s.heap.objs.size, _, ?_, rfl, q2⟩⟩
  have hz : (mergeK [] kvs).length ≤ sizeLine := by
    have h1 := length_mergeK kvs []
    rw [List.length_nil] at h1
    rw [sizeLine_eq]; omega
  have he : ∃ q, h'.get? s.heap.objs.size = some q := let ⟨q, _, _, hq, _⟩ := dd'; ⟨q, hq⟩
  exact d_write I2 (by rw [e]; exact True.intro) hs he (dk_new hz hd (rk.merge .nil) dd')
structure M1 (X : Cx) (o : Expr) (m : Str) (apos : Pos) (e : Expr) (cpos : Pos) : Prop where
  base : attributeBase o m X.env (eval o X.env) = eval o X.env
  few : ((backTo cpos (starEach [e] X.env)).all (fun x => !x.1) && (backToKw cpos (keywordEach [] X.env)).all (fun x => x.1.isSome)
    && decide (([e] : List Expr).length + ([] : List Keyword).length + (if ([] : List Keyword).isEmpty then 0 else 1) < 30)) = true
  line : (apos.endLine == cpos.line) = true
  trees : backTo cpos (starEach [e] X.env) = [(false, eval e X.env)]
structure M2 (X : Cx) (o : Expr) (m : Str) (apos : Pos) (e f : Expr) (cpos : Pos) : Prop where
  base : attributeBase o m X.env (eval o X.env) = eval o X.env
  few : ((backTo cpos (starEach [e, f] X.env)).all (fun x => !x.1) && (backToKw cpos (keywordEach [] X.env)).all (fun x => x.1.isSome)
    && decide (([e, f] : List Expr).length + ([] : List Keyword).length + (if ([] : List Keyword).isEmpty then 0 else 1) < 30)) = true
  line : (apos.endLine == cpos.line) = true
  trees : backTo cpos (starEach [e, f] X.env) = [(false, eval e X.env), (false, eval f X.env)]
section
variable {X : Cx} {pins : List (Addr × Obj)} {σ : St} {H : Hp} {s : Shared} {a : Addr} {y d : V} {u r : Value} {o : Option V} {A : Around} {E : Value → Shared → Prop}
end
section
variable {X : Cx} {o e f : Expr} {apos cpos : Pos} {td ty tx : TE}
end
section
variable {X : Cx} {pins : List (Addr × Obj)} {σ : St} {H : Hp} {s : Shared} {a : Addr} {kvs : List (Key × V)} {A : Around} {E : Value → Shared → Prop}
end
section
variable {X : Cx} {pins : List (Addr × Obj)} {σ : St} {H : Hp} {s : Shared} {a : Addr} {y : V} {u : Value} {A : Around} {E : Value → Shared → Prop}
end
end L2
namespace Att
open PySem PySem.W PySem.Calls PyProof.Rows
theorem ints_of_wellAll {P : Params} {h : Heap} : ∀ (ns : List Int) (vs : List Value), WellAll P h vs (ns.map WData.int) → IntsAre vs ns := by
  intro ns
  induction ns with
  | nil =>
    intro vs w
    rw [List.map_nil] at w
    cases w
    exact .nil
  | cons n ns ih =>
    intro vs w
    rw [List.map_cons] at w
    cases w with
    | cons a b =>
      cases a
      exact .cons _ _ (ih _ b)
theorem script_of {l : OpenLaw} {n : Nat} (hn : l.most = some n) {P : Params} {h : Heap} {args : List WData} {vals : List Value}
    (hpre : l.row.toRowW.claim.pre args = true) (hwl : WellAll P h vals args) :
    ∃ a vs ns, vals = [Value.ref a] ∧ args = [WData.list (ns.map WData.int)] ∧ h.get? a = some { cls := .type "list", data := .seq vs.toArray } ∧ IntsAre vs ns ∧ ns.length ≤ n := by
  have hsh : WShape.hasAll [] args [.list .int] = true := (pre_splitW hpre).1
  have hc : l.pre.holds [] { args := args } = true := (pre_splitW hpre).2
  obtain ⟨d, r, rfl, h1, h2⟩ := hasAllW_cons hsh
  obtain rfl := hasAllW_nil h2
  obtain ⟨xs, rfl, h3⟩ := hasW_list h1
  obtain ⟨ns, rfl⟩ := items_int h3
  have hlen : ns.length ≤ n := by
    unfold OpenLaw.pre at hc
    have h4 : (WTm.not (.lt (.lit (.int (n : Int))) (.len (.arg 0)))).holds [] { args := [.list (ns.map .int)] } = true := by
      have h4 := (holds_andW hc).1
      rw [hn] at h4
      exact h4
    have h5 := condW_of h4 (w_not (w_lt w_lit (w_len_list (w_arg rfl))))
    rw [List.length_map] at h5
    refine Nat.le_of_not_lt fun q => ?_
    have q' : (n : Int) < ((ns.length : Nat) : Int) := by omega
    first
      | (rw [decide_eq_true q'] at h5; exact absurd h5 (by decide))
      | (simp at h5; omega)
  cases hwl with
  | cons w1 w2 =>
    cases w2
    cases w1 with
    | list ho hall => exact ⟨_, _, ns, rfl, rfl, ho, ints_of_wellAll ns _ hall, hlen⟩
theorem post_true (l : OpenLaw) (args : List WData) : l.row.toRowW.claim.post args (.bool true) args = true :=
  postW_of (r := l.row.toRowW) (X := (true == true))
    (show WShape.has [] (.bool true) .bool = true by first | rfl | decide | simp [WShape.has, WShape.arms, WShape.armsAll])
    (show (WTm.eq .res (.lit (.bool true))).value [] { args := args, res := some (.bool true), after := args } = some (.bool (true == true)) from w_eq_bool (w_res rfl) w_lit) rfl
theorem attach_call {l : OpenLaw} {n : Nat} {q : Program} {loose : List Str} {XP : (Str → Option Value) → Heap → Prop} {YP : World → Heap → Prop} {d : DefRec}
    (hn : l.most = some n) (hdf : d.params.defaults = [])
    (call : ∀ (w : World) (s₀ s₁ : Shared) (mg mb : Str → Option Value) (fa : Addr) (o : Obj) (pm cd doc : Value) (a : Addr) (vs : List Value) (ns : List Int),
      Ground q loose [] XP w s₀ mg mb s₁.heap → YP w s₁.heap →
      s₁.heap.get? fa = some o → o.data = .func (docDef d.name d.params d.body d.scope pm cd doc) → s₁.heap.CodeRec cd d.name → mg d.name = some (.ref fa) →
      s₁.heap.get? a = some { cls := .type "list", data := .seq vs.toArray } → IntsAre vs ns → ns.length ≤ n → s₁.gens = #[] →
      codeAny (model l.prog w) callerA (.call (.ref fa) ⟨[.ref a], []⟩) (fun r s' => r = .ok (.ret (.bool true)) ∧ OldK s₁.heap s'.heap ∧ s'.os = s₁.os ∧ AllBare s'.gens) s₁) :
    WalkO q loose XP YP l.row.toRowW d [] (fun f vs => PySem.call f vs) := by
  intro w s₀ s₁ mg mb G Y fa o pm cd doc dV kV ho hd hcd hD hmg hg args vals as hpre hlay hrd hwl hlo
  obtain rfl : dV = .none := Dflts.none hD hdf
  obtain rfl : kV = .none := Dflts.noKw hD
  obtain ⟨a, vs, ns, rfl, rfl, hobj, hints, hlen⟩ := script_of hn hpre hwl
  refine enter_call (codeAny_mono (call w s₀ s₁ mg mb fa o pm cd doc a vs ns G Y ho (fd_plain hd) hcd hmg hobj hints hlen hg) fun r s' hq => ?_)
  obtain ⟨rfl, h2, h3, h4⟩ := hq
  exact ⟨.inl ⟨.bool true, .bool true, [], rfl, fun _ => rfl, .bool true, post_true l _, fun _ => ⟨List.Pairwise.nil, fun _ hm => (nomatch hm)⟩⟩, h2, h3, h4⟩
section
variable {prog : Program} {w : World} {A : Around} {E : Value → Shared → Prop} {s : Shared} {K : Frag}
end
end Att
namespace L2
open PySem PySem.Spec PyProof.Rows
theorem vals_ints {vs : List Value} {ns : List Int} (h : IntsAre vs ns) : Vals (ns.map V.int) vs := by
  induction h with
  | nil => exact .nil
  | cons n t _ ih => exact .cons ⟨t, rfl⟩ ih
noncomputable def Only (H : Hp) : Prop := ∀ b, H b = none ∨ ∃ o xs, H b = some (.frz o (.lst xs))
theorem law_call {P : Program} {w : World} {K : PySem.W.Frag} {mg mb : Str → Option Value} {CX : CXT} {k : Nat} {fa a : Addr} {fd : FuncData} {x : Str} {sp : Sp} {s₁ : Shared} {vs : List Value} {ns : List Int}
    (KX : K.In s₁.heap) (hns : s₁.heap.Ns mainGlobals mg) (hb : s₁.heap.Ns builtinsNs mb) (hbb : ∀ x : Str, x ≠ "__name__" → mb x = bootBuiltins x) (hlim : s₁.heap.NoLimit) (hg : s₁.gens = #[])
    (ha : s₁.heap.get? a = some { cls := .type "list", data := .seq vs.toArray }) (hi : IntsAre vs ns) (hl : ns.length ≤ sizeLine) (hr : Room k callerA)
    (F : ∀ base : Heap, K.In base → base.Ns mainGlobals mg → FnOk P w K mg base CX k fa fd [x] sp) (hbind : ∀ (s : Shared) (u : Value), BindsTo s fd ⟨[u], []⟩ [(x, u)])
    (hsp : ∀ H : Hp, Only H → SqL K H a (ns.map V.int) → sp [.ref a] H (fun v _ => v = .bl true) fun _ _ _ => False)
    (hCX : ∀ H e s', CX [] H s₁ (fun _ _ _ => False) e s' → False) :
    codeAny (model P w) callerA (.call (.ref fa) ⟨[.ref a], []⟩) (fun r s' => r = .ok (.ret (.bool true)) ∧ OldK s₁.heap s'.heap ∧ s'.os = s₁.os ∧ AllBare s'.gens) s₁ := by
  have rv := vals_ints hi
  have lenV := hi.length
  have core : ∀ H : Hp, Only H → SqL K H a (ns.map V.int) → HOk P w H s₁.heap → (∀ b, H b ≠ none → b = a) → (H a ≠ none → K.lookup a = none) →
      codeAny (model P w) callerA (.call (.ref fa) ⟨[.ref a], []⟩) (fun r s' => r = .ok (.ret (.bool true)) ∧ OldK s₁.heap s'.heap ∧ s'.os = s₁.os ∧ AllBare s'.gens) s₁ := by
    intro H hO hS hok hA hK
    have base_of : ∀ {b : Addr} {o : Obj}, s₁.heap.get? b = some o → H b = none → (hidT s₁.heap H).get? b = some o := fun e n => hidT_get e n
    have noA : ∀ {b : Addr} {o : Obj} {es : Array DictEntry} {ep : Nat}, s₁.heap.get? b = some o → o.data = .dict es ep → H b = none := fun {b o es ep} e d => by
      cases q : H b with
      | none => rfl
      | some u =>
        have e' : b = a := hA b (by rw [q]; simp)
        subst e'
        rw [ha] at e; cases e
        have d' : Data.seq vs.toArray _ = Data.dict es ep := d
        cases d'
    have nsK : ∀ {b : Addr} {m : Str → Option Value}, s₁.heap.Ns b m → (hidT s₁.heap H).Ns b m := fun {b m} ⟨o, es, ep, e, d, r⟩ => ⟨o, es, ep, base_of e (noA e d), d, r⟩
    have hKb : K.In (hidT s₁.heap H) := fun b o e => base_of (KX b o e) (by
      cases q : H b with
      | none => rfl
      | some u =>
        have e' : b = a := hA b (by rw [q]; simp)
        subst e'
        rw [hK (by rw [q]; simp)] at e; cases e)
    have hM : Mod K mg (hidT s₁.heap H) := ⟨hKb, nsK hns, ⟨mb, nsK hb, hbb⟩, let ⟨mc, h1, h2⟩ := hlim; ⟨mc, nsK h1, h2⟩⟩
    have e0 : Env0 P w K mg (hidT s₁.heap H) callerA [] s₁ H := ⟨rfl, hM, fun b o e => of_hidT e, Nat.le_of_eq (hidT_size _ _), trivial, fun b hb => absurd (show b ∈ ([] : List Addr) from hb) (by simp), hok, .of_eq hg⟩
    refine codeAny_mono ((F _ hKb (nsK hns)).run callerA [] s₁ H ⟨[.ref a], []⟩ [.ref a] [.ref a] _ _ hr e0 (hbind s₁ (.ref a)) (.cons rfl .nil) (hsp H hO hS)) fun r s' h => ?_
    cases r with
    | error e => exact (hCX H e s' h).elim
    | ok fl =>
      cases fl with
      | next => exact False.elim h
      | brk => exact False.elim h
      | cont => exact False.elim h
      | ret u =>
        obtain ⟨v, H', os, bare, un, hok', r', q⟩ := h
        have q' : v = .bl true := q
        subst q'
        obtain rfl : u = Value.bool true := r'
        refine ⟨rfl, OldK.of_keep fun b o e => ?_, os, bare⟩
        cases q : H b with
        | none => exact un.keep b o e q (by intro z; exact absurd (show b ∈ ([] : List Addr) from z) (by simp)) (by simp)
        | some u =>
          rcases hO b with z | ⟨ob, xs, z⟩
          · rw [q] at z; cases z
          · have z2 := un.frzs b ob _ z
            obtain ⟨e1, _⟩ := hok b _ z
            obtain ⟨e2, _⟩ := hok' b _ z2
            rw [e] at e1; cases e1
            exact e2
  cases hk : K.lookup a with
  | some o =>
    have e := KX a o hk
    rw [ha] at e
    cases e
    refine core (fun _ => none) (fun _ => .inl rfl) (.inr ⟨_, vs.toArray, _, hk, rfl, rfl, rfl, by rw [List.size_toArray, lenV]; exact hl, by simpa using rv⟩) (fun b u z => by have z' : (none : Option HO) = some u := z; cases z') (fun b z => absurd rfl z) fun z => absurd rfl z
  | none =>
    refine core (fun b => if b = a then some (.frz { cls := .type "list", data := .seq vs.toArray } (.lst (ns.map V.int))) else none) (fun b => ?_) (.inl (.inr ⟨{ cls := .type "list", data := .seq vs.toArray }, if_pos rfl⟩)) (fun b u z => ?_) (fun b z => ?_) fun _ => hk
    · by_cases hb : b = a
      · exact .inr ⟨_, _, if_pos hb⟩
      · exact .inl (if_neg hb)
    · by_cases hb : b = a
      · have z' := (if_pos hb).symm.trans z
        cases z'
        subst hb
        exact ⟨ha, by rw [List.length_map]; exact hl, vs, _, rv, ha⟩
      · have z' := (if_neg hb).symm.trans z
        cases z'
    · by_cases hb : b = a
      · exact hb
      · exact absurd (if_neg hb) z
end L2
namespace L2
open PySem PySem.Spec PyProof.Rows
theorem walk_of {l : PySem.W.OpenLaw} {n k : Nat} {q : Program} {loose : List Str} {XP : (Str → Option Value) → Heap → Prop} {YP : World → Heap → Prop} {d : DefRec} {K : Params → PySem.W.Frag} {CX : World → CXT} {sp : World → Sp} {x : Str}
    (hn : l.most = some n) (hn2 : n ≤ sizeLine) (hdf : d.params.defaults = []) (hr : Room k callerA)
    (hY : ∀ (w : World) (h : Heap), YP w h → (K w.params).In h)
    (F : ∀ (w : World) (mg : Str → Option Value) (fa : Addr) (h : Heap), (K w.params).In h → h.Ns mainGlobals mg → mg d.name = some (.ref fa) →
      ∃ fd : FuncData, (∀ (s : Shared) (u : Value), BindsTo s fd ⟨[u], []⟩ [(x, u)]) ∧
        ∀ base : Heap, (K w.params).In base → base.Ns mainGlobals mg → FnOk l.prog w (K w.params) mg base (CX w) k fa fd [x] (sp w))
    (hsp : ∀ (w : World) (H : Hp) (a : Addr) (ns : List Int), ns.length ≤ n → Only H → SqL (K w.params) H a (ns.map V.int) → sp w [.ref a] H (fun v _ => v = .bl true) fun _ _ _ => False)
    (hCX : ∀ (w : World) (H : Hp) (s : Shared) (e : Value) (s' : Shared), CX w [] H s (fun _ _ _ => False) e s' → False) :
    PySem.W.WalkO q loose XP YP l.row.toRowW d [] (fun f vs => PySem.call f vs) := by
  refine Att.attach_call hn hdf fun w s₀ s₁ mg mb fa o pm cd doc a vs ns G Y ho hd hcd hmg hobj hints hlen hg => ?_
  have KX := hY w _ Y
  obtain ⟨fd, hb, hF⟩ := F w mg fa _ KX G.T.g hmg
  exact law_call KX G.T.g G.T.b G.T.builtins G.T.nolimit hg hobj hints (Nat.le_trans hlen hn2) hr hF hb (fun H hO hS => hsp w H a ns hlen hO hS) fun H e s' => hCX w H s₁ e s'
end L2
namespace L2
open PySem PySem.Spec PyProof.Rows
noncomputable def inClass (s : Stmt) (j : Nat) : Stmt := match s with
  | .ClassDef _ _ _ body _ _ _ _ _ _ _ => body.getD j (.Pass ⟨0, 0, 0, 0⟩)
  | _ => .Pass ⟨0, 0, 0, 0⟩
noncomputable def defArgs (s : Stmt) : Arguments := match s with
  | .FunctionDef _ a _ _ _ _ _ _ _ _ => a
  | _ => { posonlyargs := [], args := [], vararg := none, kwonlyargs := [], kw_defaults := [], kwarg := none, defaults := [] }
noncomputable def defBody (s : Stmt) : List Stmt := match s with
  | .FunctionDef _ _ b _ _ _ _ _ _ _ => b
  | _ => []
noncomputable def defScope (s : Stmt) : Scope := match s with
  | .FunctionDef _ _ _ _ _ _ sc _ _ _ => sc
  | _ => { kind := .function, names := [], isGenerator := false, isCoroutine := false }
noncomputable abbrev CX0 : CXT := fun _ _ _ _ _ _ => False
noncomputable abbrev E0 : XK := fun _ _ _ => False
theorem pass0 {X : Cx} : Passes CX0 X E0 := fun _ _ _ _ _ _ _ h => h.elim
structure Fun (K : PySem.W.Frag) (x qual : Str) (st : Stmt) (f : Addr) (fd : FuncData) : Prop where
  ex : ∃ (oc : Value) (od : Option Addr) (kV doc pm : Value) (an : Option Addr) (cdv ct : Value) (osl : Array (Option Value)),
    fd = PySem.W.fnOf x qual (defArgs st) (defBody st) (defScope st) .none kV doc pm an cdv ct ∧ K.lookup f = some ⟨oc, od, .func fd, osl⟩ ∧ PySem.W.codeIn K cdv qual = true
  kp : PySem.W.keepIn K (.ref f) = true
section
variable {P : Program} {w : World} {K : PySem.W.Frag} {mg : Str → Option Value} {base : Heap}
theorem Fun.ok {x qual : Str} {st : Stmt} {f : Addr} {fd : FuncData} {N ps : List Str} {k : Nat} {sp : Sp} (F : Fun K x qual st f fd) (S : FnScope N ps (defScope st)) (len : ∀ vs H Q E, sp vs H Q E → vs.length = ps.length)
    (hbody : ∀ (cdv : Value) (A : Around) (outer : List Env) (s : Shared) (H : Hp) (vs : List V) (Q : VK) (E : XK), Room k (A.deeper (envOfC qual (defScope st) s.heap.objs.size f cdv)) → sp vs H Q E →
      ∃ t, PSs (cxOf CX0 P w K mg base N qual (defScope st) f cdv A outer s H E).nox (defBody st) t ∧ t { nx := fun _ H' => Q .non H', rt := Q } (start N vs) H) : FnOk P w K mg base CX0 (k + 1) f fd ps sp := by
  obtain ⟨oc, od, kV, doc, pm, an, cdv, ct, osl, rfl, lk, hcd⟩ := F.ex
  refine fn_of lk hcd S len fun A outer s H vs Q E hr hsp => ?_
  obtain ⟨t, h, q⟩ := hbody cdv A outer s H vs Q E hr hsp
  exact ⟨t, h.nox, q⟩
theorem Fun.binds {x qual : Str} {st : Stmt} {f : Addr} {fd : FuncData} {ps : List Str} (F : Fun K x qual st f fd)
    (h : ∀ (kV doc pm : Value) (an : Option Addr) (cdv ct : Value) (us : List Value), us.length = ps.length → bindArgs (PySem.W.fnOf x qual (defArgs st) (defBody st) (defScope st) .none kV doc pm an cdv ct) ⟨us, []⟩ = pure (ps.zip us)) : Binds K fd ps [] := by
  obtain ⟨oc, od, kV, doc, pm, an, cdv, ct, osl, rfl, lk, hcd⟩ := F.ex
  exact .all (h kV doc pm an cdv ct)
theorem fun_mk {x qual : Str} {st : Stmt} {f : Addr} {oc : Value} {od an : Option Addr} {osl : Array (Option Value)} {kV doc pm cdv ct : Value} (l : K.lookup f = some ⟨oc, od, .func (PySem.W.fnOf x qual (defArgs st) (defBody st) (defScope st) .none kV doc pm an cdv ct), osl⟩)
    (c : PySem.W.codeIn K cdv qual = true) (k : PySem.W.keepIn K (.ref f) = true) : Fun K x qual st f (PySem.W.fnOf x qual (defArgs st) (defBody st) (defScope st) .none kV doc pm an cdv ct) := ⟨⟨oc, od, kV, doc, pm, an, cdv, ct, osl, rfl, l, c⟩, k⟩
end
theorem hu_of {A : Around} {k : Nat} (hr : Room k A) : A.units + 1 < cLine := Nat.lt_of_le_of_lt (Nat.add_le_add_left (by decide : 1 ≤ 64) _) hr.units
theorem small1000 {n : Nat} (h : n ≤ 1000) : n < sizeLine := Nat.lt_of_le_of_lt h (by decide)
section
variable {X : Cx}
theorem pv (i : Nat) {x : Str} {pos : Pos} (hN : X.N[i]? = some x := by rfl) (hv : Vis X.env.scope x := by first | exact Or.inl rfl | exact Or.inr (Or.inl rfl) | exact Or.inr (Or.inr rfl)) (hd : (x == ("__debug__" : Str)) = false := by decide)
    (hcd : (x == ("__classdict__" : Str)) = false := by decide) : PE X (.Name x pos) (tVar i) := pe_var hN hv hd hcd
end
theorem iteF {A B : Prop} (h : B) : if false = true then A else B := by
  rw [if_neg Bool.false_ne_true]
  exact h
theorem iteT {A B : Prop} (h : A) : if true = true then A else B := by
  rw [if_pos rfl]
  exact h
theorem ite2 {c A B : Prop} [Decidable c] (h1 : c → A) (h2 : ¬ c → B) : if c then A else B := by
  by_cases h : c
  · rw [if_pos h]
    exact h1 h
  · rw [if_neg h]
    exact h2 h
end L2
set_option Elab.async false
set_option linter.all false
set_option maxRecDepth 100000
set_option maxHeartbeats 4000000
namespace L2
open PySem PySem.Spec PyProof.Rows
noncomputable def clF (env : Env) : List (Str × NameKind) → List (Str × Addr) → List (Str × Addr)
  | [], cs => cs
  | (n, k) :: r, cs => clF env r (if k == NameKind.free then (n, (env.cells.lookup n).getD 0) :: cs else cs)
theorem clF_run (env : Env) : ∀ (l : List (Str × NameKind)) (cs : List (Str × Addr)), (∀ n, (n, NameKind.free) ∈ l → (env.cells.lookup n).isSome = true) →
    (forIn l cs fun x r => (match x with
      | (name, kind) => if (kind == NameKind.free) = true then (do let c ← cellOf env name; pure (ForInStep.yield ((name, c) :: r))) else pure (ForInStep.yield r) : Sem (ForInStep (List (Str × Addr))))) = pure (clF env l cs) := by
  intro l
  induction l with
  | nil => intro cs _; rfl
  | cons x l ih =>
    intro cs h
    obtain ⟨n, k⟩ := x
    rw [List.forIn_cons]
    by_cases hk : k = NameKind.free
    · subst hk
      have h1 := h n List.mem_cons_self
      obtain ⟨c, hc⟩ := Option.isSome_iff_exists.mp h1
      simp only [beq_self_eq_true, if_true, clF, hc, Option.getD_some, cellOf, pure_bind]
      exact ih _ fun m hm => h m (List.mem_cons_of_mem _ hm)
    · have hb : (k == NameKind.free) = false := by simpa using hk
      simp only [hb, Bool.false_eq_true, if_false, clF, pure_bind]
      exact ih _ fun m hm => h m (List.mem_cons_of_mem _ hm)
theorem closureFor_clF {scope : Scope} {env : Env} (h : ∀ n, (n, NameKind.free) ∈ scope.names → (env.cells.lookup n).isSome = true) :
    closureFor scope env = pure (clF env scope.names []) := by
  have e := clF_run env scope.names [] h
  unfold closureFor
  simp only [bind_pure] at e ⊢
  exact e
theorem clF_sub (env : Env) : ∀ (l : List (Str × NameKind)) (cs : List (Str × Addr)), (∀ n, (n, NameKind.free) ∈ l → (env.cells.lookup n).isSome = true) →
    (∀ y c, cs.lookup y = some c → env.cells.lookup y = some c) → ∀ y c, (clF env l cs).lookup y = some c → env.cells.lookup y = some c := by
  intro l
  induction l with
  | nil => intro cs _ h; exact h
  | cons x l ih =>
    intro cs h hc
    obtain ⟨n, k⟩ := x
    refine ih _ (fun m hm => h m (List.mem_cons_of_mem _ hm)) ?_
    by_cases hk : k = NameKind.free
    · subst hk
      obtain ⟨c, e⟩ := Option.isSome_iff_exists.mp (h n List.mem_cons_self)
      simp only [beq_self_eq_true, if_true, e, Option.getD_some]
      intro y c' q
      rw [List.lookup_cons] at q
      cases hy : y == n with
      | true =>
        rw [hy] at q
        have ey : y = n := by simpa using hy
        cases q
        rw [ey]; exact e
      | false =>
        rw [hy] at q
        exact hc y c' q
    · have hb : (k == NameKind.free) = false := by simpa using hk
      simp only [hb, Bool.false_eq_true, if_false]
      exact hc
theorem clF_has (env : Env) : ∀ (l : List (Str × NameKind)) (cs : List (Str × Addr)) (y : Str), ((y, NameKind.free) ∈ l ∨ (cs.lookup y).isSome = true) → ((clF env l cs).lookup y).isSome = true := by
  intro l
  induction l with
  | nil => intro cs y h; exact h.elim (fun z => by cases z) id
  | cons x l ih =>
    intro cs y h
    obtain ⟨n, k⟩ := x
    refine ih _ y ?_
    rcases h with h | h
    · rcases List.mem_cons.mp h with e | e
      · cases e
        right
        simp
      · exact .inl e
    · right
      by_cases hk : k = NameKind.free
      · subst hk
        simp only [beq_self_eq_true, if_true, List.lookup_cons]
        cases hy : y == n <;> simp [h]
      · have hb : (k == NameKind.free) = false := by simpa using hk
        simp only [hb, Bool.false_eq_true, if_false]
        exact h
theorem relabel_kind {scope : Scope} {env : Env} : ∀ (l : List (Str × NameKind)) (x : Str) (k : NameKind),
    (l.map fun (n, k) => if (k == NameKind.free && env.scope.kind == .function && env.kindOf n == some .cell) then (n, NameKind.cell) else (n, k)).lookup x = some k → k = .cell ∨ k = .free →
    (∀ y ∈ l, y.2 ≠ .cell) → (x, NameKind.free) ∈ l
  | [], x, k, h, _, _ => by simp at h
  | (n, k') :: r, x, k, h, hk, hc => by
    rw [List.map_cons, List.lookup_cons] at h
    have hn : (if (k' == NameKind.free && env.scope.kind == .function && env.kindOf n == some .cell) = true then (n, NameKind.cell) else (n, k')).1 = n := by split <;> rfl
    simp only [hn] at h
    cases hx : x == n with
    | true =>
      rw [hx] at h
      have ex : x = n := by simpa using hx
      subst ex
      simp only [Option.some.injEq] at h
      split at h
      · rename_i q
        simp only [Bool.and_eq_true, beq_iff_eq] at q
        rw [q.1.1]; exact List.mem_cons_self
      · have h' : k' = k := h
        rcases hk with z | z
        · exact absurd (h'.trans z) (hc _ List.mem_cons_self)
        · rw [h', z]; exact List.mem_cons_self
    | false =>
      rw [hx] at h
      exact List.mem_cons_of_mem _ (relabel_kind (scope := scope) r x k h hk fun y hy => hc y (List.mem_cons_of_mem _ hy))
noncomputable def cxC (X : Cx) (xs : List Str) (ix : List Nat) (scope : Scope) (C : Addr) (fp : List Addr) (s : Shared) (H : Hp) : Cx :=
  { X with N := xs ++ ix.map (fun i => X.N.getD i ""), s₀ := s, H₀ := H, env := compEnvC scope (clF X.env scope.names []) C X.env,
           outer := X.stack, stack := X.stack, ex := fp, fn := fun _ => false, pn := [], xe := fun _ _ => False }
noncomputable def stC (xs : List Str) (ix : List Nat) (σ : St) : St := xs.map (fun _ => none) ++ ix.map (fun i => (σ[i]?).join)
structure CompScope (X : Cx) (xs : List Str) (ix : List Nat) (scope : Scope) : Prop where
  kind : scope.kind = .function
  nocell : ∀ y ∈ scope.names, y.2 ≠ .cell
  loc : ∀ y ∈ scope.names, y.2 = .local → scope.names.lookup y.1 = some .local
  fre : ∀ n, (n, NameKind.free) ∈ scope.names → X.env.kindOf n = some .cell ∨ X.env.kindOf n = some .free
  own : ∀ x ∈ xs, scope.names.lookup x = some .local
  nd : (xs ++ ix.map (fun i => X.N.getD i "")).Nodup
  inN : ∀ i ∈ ix, i < X.N.length
  frx : ∀ i ∈ ix, scope.names.lookup (X.N.getD i "") = some .free
theorem relabel_free {scope : Scope} {env : Env} : ∀ (l : List (Str × NameKind)) (x : Str), l.lookup x = some .free →
    (l.map fun (n, k) => if (k == NameKind.free && env.scope.kind == .function && env.kindOf n == some .cell) then (n, NameKind.cell) else (n, k)).lookup x = some .cell ∨
    (l.map fun (n, k) => if (k == NameKind.free && env.scope.kind == .function && env.kindOf n == some .cell) then (n, NameKind.cell) else (n, k)).lookup x = some .free
  | [], x, h => by simp at h
  | (n, k') :: r, x, h => by
    rw [List.lookup_cons] at h
    rw [List.map_cons, List.lookup_cons]
    have hn : (if (k' == NameKind.free && env.scope.kind == .function && env.kindOf n == some .cell) = true then (n, NameKind.cell) else (n, k')).1 = n := by split <;> rfl
    simp only [hn]
    cases hx : x == n with
    | true =>
      rw [hx] at h
      have h' : k' = .free := Option.some.inj h
      subst h'
      by_cases hc : (NameKind.free == NameKind.free && env.scope.kind == .function && env.kindOf n == some .cell) = true
      · left; simp only [if_pos hc]
      · right; simp only [if_neg hc]
    | false =>
      rw [hx] at h
      exact relabel_free (scope := scope) r x h
theorem block_start {X : Cx} {xs : List Str} {ix : List Nat} {scope : Scope} {pins : List (Addr × Obj)} {σ : St} {H : Hp} {s s1 : Shared} {fp : List Addr} {h1 : Heap} {tk : Nat}
    (S : CompScope X xs ix scope) (I : Inv X pins σ H s) (hf : ∀ b ∈ fp, FpOk X pins H b) (hfo : ∀ b ∈ fp, ∃ o, s.heap.get? b = some o)
    (hns : h1.Ns s.heap.objs.size (fun _ => none)) (hk : ∀ b o, s.heap.get? b = some o → h1.get? b = some o) (e1 : s1 = { s with heap := h1, toks := tk }) :
    Inv (cxC X xs ix scope s.heap.objs.size fp s H) [] (stC xs ix σ) H s1 := by
  subst e1
  have hcl : ∀ n, (n, NameKind.free) ∈ scope.names → (X.env.cells.lookup n).isSome = true := fun n hn => by
    obtain ⟨c, e⟩ := I.ok.has n (S.fre n hn)
    rw [e]; rfl
  have sub := clF_sub X.env scope.names [] hcl (fun y c q => by simp at q)
  have has := fun y hy => clF_has X.env scope.names [] y (.inl hy)
  have fpl : ∀ b ∈ fp, b ∉ frs X.stack := fun b hb z => by
    obtain ⟨_, f1, f2, _⟩ := hf b hb
    rcases List.mem_cons.mp (I.stkSub b z) with q | q
    · exact f1 q
    · exact f2 q
  have kindR : ∀ x k, (cxC X xs ix scope s.heap.objs.size fp s H).env.kindOf x = some k → k = .cell ∨ k = .free → (x, NameKind.free) ∈ scope.names := fun x k e hk' =>
    relabel_kind (scope := scope) (env := X.env) scope.names x k e hk' S.nocell
  refine ⟨⟨I.ok.mod, S.kind, I.ok.glob, I.ok.blt, Nat.le_refl _, fun x y c a b => ?_, fun x hx => ?_, fun x c z => (by cases z), I.ok.hd, I.ok.frames, .inl rfl, fun b hb => ?_, I.bs, Nat.le_trans I.ok.bsz I.sz, fun b o e hb => ?_, fpl, I.stack, I.stkFree⟩,
    rfl, I.bare, Un.kept hk, ⟨_, hns, fun i x v e1 e2 e3 => ?_⟩, fun x c e => ?_, I.hok.fresh (Nat.le_refl _), fun x c e => I.freeC x c (sub x c e), fun p hp => absurd (show p ∈ ([] : List (Addr × Obj)) from hp) (by simp), I.hok.kept hk, ?_⟩
  · exact I.ok.inj x y c (sub x c a) (sub y c b)
  · have hm : (x, NameKind.free) ∈ scope.names := hx.elim (fun z => kindR x _ z (.inl rfl)) fun z => kindR x _ z (.inr rfl)
    exact Option.isSome_iff_exists.mp (has x hm)
  · obtain ⟨f0, f1, f2, f3, f4, f5⟩ := hf b hb
    obtain ⟨o, ho⟩ := hfo b hb
    exact ⟨fun z => Nat.lt_irrefl _ (Nat.lt_of_lt_of_eq (Heap.lt_size ho) z.symm), fun x c e => f4 x c (sub x c e)⟩
  · obtain ⟨f0, f1, f2, f3, f4, f5⟩ := hf b hb
    rcases f3 with q | q
    · exact I.ok.noex b o e q
    · exact Nat.lt_irrefl _ (Nat.lt_of_lt_of_le (Heap.lt_size e) (Nat.le_trans I.ok.bsz q))
  · have e2' : (xs.map (fun _ => (none : Option V)) ++ ix.map (fun i => (σ[i]?).join))[i]? = some (some v) := e2
    have e1' : (xs ++ ix.map (fun i => X.N.getD i ""))[i]? = some x := e1
    by_cases hi : i < xs.length
    · rw [List.getElem?_append_left (by simpa using hi), List.getElem?_map] at e2'
      cases q : xs[i]? with
      | none => rw [q] at e2'; cases e2'
      | some z => rw [q] at e2'; cases e2'
    · have hi' : xs.length ≤ i := Nat.not_lt.mp hi
      rw [List.getElem?_append_right (by simpa using hi'), List.length_map, List.getElem?_map] at e2'
      rw [List.getElem?_append_right hi', List.getElem?_map] at e1'
      cases q : ix[i - xs.length]? with
      | none => rw [q] at e2'; cases e2'
      | some j =>
        rw [q] at e1' e2'
        have hj : j ∈ ix := List.mem_of_getElem? q
        have ex : X.N.getD j "" = x := Option.some.inj e1'
        have ev : (σ[j]?).join = some v := Option.some.inj e2'
        have hjl := S.inN j hj
        have eN : X.N[j]? = some x := by
          rw [← ex, List.getD_eq_getElem?_getD]
          rw [List.getElem?_eq_getElem hjl]; rfl
        have eσ : σ[j]? = some (some v) := by
          cases z : σ[j]? with
          | none => rw [z] at ev; cases ev
          | some y => rw [z] at ev; simp at ev; rw [ev]
        have hfr := S.frx j hj
        rw [ex] at hfr
        have hkin := S.fre x (PySem.mem_of_lookup hfr)
        obtain ⟨m, hn, hl⟩ := I.loc
        obtain ⟨u, ru, lk⟩ := hl j x v eN eσ (hkin.elim (fun z => .inr (.inl z)) fun z => .inr (.inr z))
        refine ⟨u, ru, .inr ⟨relabel_free (scope := scope) (env := X.env) scope.names x hfr, ?_⟩⟩
        rcases lk with ⟨k1, _⟩ | ⟨_, c, ec, zc⟩
        · rcases hkin with z | z <;> (rw [z] at k1; cases k1)
        · obtain ⟨c', ec'⟩ := Option.isSome_iff_exists.mp (has x (PySem.mem_of_lookup hfr))
          have q2 := sub x c' ec'
          rw [ec] at q2; cases q2
          obtain ⟨oc, hoc, hd⟩ := zc
          exact ⟨c, ec', oc, hk c oc hoc, hd⟩
  · obtain ⟨v, oc, hoc, hd⟩ := I.cell x c (sub x c e)
    exact ⟨v, oc, hk c oc hoc, hd⟩
  · show (xs.map (fun _ => (none : Option V)) ++ ix.map (fun i => (σ[i]?).join)).length = (xs ++ ix.map (fun i => X.N.getD i "")).length
    simp
theorem lc_loop {prog : Program} {w : World} {A : Around} {R : Result → Shared → Prop} {s : Shared} {elt target iter : Expr} {ifs : List Expr} {scope : Scope} {pos : Pos} {it acc : Value} {env : Env} (J : Nat → Shared → Prop)
    (turn : ∀ n s, J n s → wpAny (model prog w) A (pyNext it) (fun r s1 => match r with
      | none => R (.ok .next) s1
      | some v => wpAny (model prog w) A (letOwnedTupleGo target it v) (fun _ s1' => wpAny (model prog w) A (assign target env v) (fun _ s2 =>
          wpAny (model prog w) A (forIn ifs true fun c r => if r = true then do let ok ← isTrue c env (eval c env); pure (ForInStep.yield ok) else pure (ForInStep.yield r)) (fun ok s3 =>
            if ok = true then wpAny (model prog w) A (eval elt env) (fun x s4 =>
              wpAny (model prog w) A (call (.builtin "list.append") [acc, x]) (fun _ s5 => ∃ m, m < n ∧ J m s5) (fun _ _ => False) s4) (fun _ _ => False) s3
            else ∃ m, m < n ∧ J m s3) (fun _ _ => False) s2) (fun _ _ => False) s1') (fun _ _ => False) s1) (fun _ _ => False) s)
    (n : Nat) (h : J n s) : codeAny (model prog w) A (.compLoop (.ListComp elt [⟨target, iter, ifs, 0⟩] scope pos) 0 it acc env) R s := by
  refine codeAny_loop rfl J (fun n s hJ => ?_) n h
  have nof : ∀ (e : Value) (s' : Shared), False → notedBy (model prog w) A env (fun e s' => R (.error e) s') e s' := fun _ _ f => f.elim
  show wpAny (model prog w) A ((compTurn (.ListComp elt [⟨target, iter, ifs, 0⟩] scope pos) 0 it acc env).onRaise (fun x => do noteFrame x env; theTreesLotGoes x)) _ _ s
  refine wpAny_noted ?_
  rw [compTurn_list]
  refine wpAny_bind (wpAny_standAt (wpAny_bind (wpAny_mono (turn n s hJ) (fun r s1 h1 => ?_) nof)))
  cases r with
  | none => exact wpAny_pure h1
  | some v =>
    refine wpAny_bind (wpAny_mono h1 (fun _ s1' h1' => ?_) nof)
    refine wpAny_bind (wpAny_mono h1' (fun _ s2 h2 => ?_) nof)
    refine wpAny_bind (wpAny_mono h2 (fun ok s3 h3 => ?_) nof)
    cases ok with
    | false => exact wpAny_pure ⟨rfl, h3⟩
    | true =>
      refine wpAny_bind (wpAny_bind (wpAny_mono h3 (fun x s4 h4 => ?_) nof))
      exact wpAny_bind (wpAny_mono h4 (fun _ s5 h5 => wpAny_pure (wpAny_pure ⟨rfl, h5⟩)) nof)
noncomputable def PTs (X : Cx) (ifs : List Expr) (t : TT) : Prop :=
  ∀ (pins : List (Addr × Obj)) (s : Shared) (σ : St) (H : Hp) (Q : Bool → Hp → Prop), Inv X pins σ H s → t σ H Q →
    wpAny (model X.prog X.w) X.A (forIn ifs true fun c r => if r = true then do let ok ← isTrue c X.env (eval c X.env); pure (ForInStep.yield ok) else pure (ForInStep.yield r)) (TP X pins σ Q) X.xe s
noncomputable def tYes : TT := fun _ H Q => Q true H
theorem pts_nil {X : Cx} : PTs X [] tYes := fun _ _ _ H _ I h => wpAny_tests_nil ⟨H, I, h⟩
noncomputable def LCW (J : It) (xs : List Str) (ix : List Nat) (g : TG) (tt : TT) (te : TE) (σ : St) (H1 : Hp) (acc : Addr) (Q : VK) : Prop :=
  ∃ W : Nat → Nat → List V → St → Hp → Prop, (∃ m, W 0 m [] (stC xs ix σ) (upd H1 acc (.lst []))) ∧
    ∀ i m ys τ H, W i m ys τ H → H acc = some (.lst ys) ∧ ys.length < sizeLine ∧
      ((J.stop i H ∧ Q (.ref acc) H) ∨ (J.go i H ∧ ∃ N : List V → St → Hp → Prop, (∀ ys' τ' H', N ys' τ' H' → ∃ m', m' < m ∧ W (i + 1) m' ys' τ' H') ∧
        ∀ x H', J.yld i H x H' → g x τ H' fun τ2 H2 => tt τ2 H2 fun b H3 =>
        if b = true then te τ2 H3 fun y H4 => H4 acc = some (.lst ys) ∧ N (ys ++ [y]) τ2 (upd H4 acc (.lst (ys ++ [y]))) else N ys τ2 H3))
noncomputable def tLC (xs : List Str) (ix : List Nat) (wi : TI) (g : TG) (tt : TT) (te : TE) : TE := fun σ H Q => wi σ H fun J H1 => ∀ acc, H1 acc = none → LCW J xs ix g tt te σ H1 acc Q
structure TurnG (Reg : Cx → Prop) (P : Program) (w : World) (tg : Expr) (J : It) (fp : List Addr) (it : Addr) (tn : Nat → Heap → Prop) : Prop where
  mem : it ∈ fp
  obj : ∀ i h, tn i h → ∀ b ∈ fp, ∃ o, h.get? b = some o ∧ ∀ v, o.data ≠ .cell v
  keep : ∀ i h h', tn i h → (∀ b ∈ fp, ∀ o, h.get? b = some o → h'.get? b = some o) → tn i h'
  item : ∀ (X : Cx), X.prog = P → X.w = w → Reg X → ∀ (i : Nat) (pins : List (Addr × Obj)) (s : Shared) (σ : St) (H : Hp) (E : Value → Shared → Prop), Inv X pins σ H s → (∀ b ∈ fp, FpOk X pins H b) → tn i s.heap → J.go i H →
    wpAny (model P w) X.A (pyNext (.ref it)) (fun r s1 => ∃ u, r = some u ∧
      wpAny (model P w) X.A (letOwnedTupleGo tg (.ref it) u) (fun _ s2 => ∃ x H', Inv X pins σ H' s2 ∧ RelV x u ∧ J.yld i H x H' ∧ tn (i + 1) s2.heap ∧ ∀ b ∈ fp, H' b = none) E s1) E s
  done : ∀ (X : Cx), X.prog = P → X.w = w → Reg X → ∀ (i : Nat) (pins : List (Addr × Obj)) (s : Shared) (σ : St) (H : Hp) (E : Value → Shared → Prop), Inv X pins σ H s → (∀ b ∈ fp, FpOk X pins H b) → tn i s.heap → J.stop i H →
    wpAny (model P w) X.A (pyNext (.ref it)) (fun r s1 => r = none ∧ Inv X pins σ H s1) E s
  self : ∀ (A : Around) (i : Nat) (s : Shared) (Q : Value → Shared → Prop) (E : Value → Shared → Prop), tn i s.heap → Q (.ref it) s → wpAny (model P w) A (pyIter (.ref it)) Q E s
noncomputable def PIEG (Reg : Cx → Prop) (X : Cx) (pins : List (Addr × Obj)) (σ : St) (tg : Expr) (R : It → Hp → Prop) (itv : Value) (s2 : Shared) : Prop :=
  ∃ (it : Addr) (fp : List Addr) (tn : Nat → Heap → Prop) (J : It) (H' : Hp), itv = .ref it ∧ Inv X pins σ H' s2 ∧ TurnG Reg X.prog X.w tg J fp it tn ∧ tn 0 s2.heap ∧ (∀ b ∈ fp, FpOk X pins H' b) ∧ R J H'
noncomputable def PIG (Reg : Cx → Prop) (X : Cx) (tg iter : Expr) (wi : TI) : Prop :=
  ∀ (pins : List (Addr × Obj)) (s : Shared) (σ : St) (H : Hp) (R : It → Hp → Prop), Inv X pins σ H s → wi σ H R →
    wpAny (model X.prog X.w) X.A (eval iter X.env) (fun v s1 => wpAny (model X.prog X.w) X.A (pyIter v) (PIEG Reg X pins σ tg R) X.xe s1) X.xe s
theorem lc_coreG {Reg : Cx → Prop} {X : Cx} {xs : List Str} {ix : List Nat} {scope : Scope} {elt tg iter : Expr} {ifs : List Expr} {pos : Pos} {wi : TI} {g : TG} {tt : TT} {te : TE}
    (S : CompScope X xs ix scope) (hreg : ∀ Y : Cx, Y.K = X.K → Y.calm = X.calm → Y.A.handled = X.A.handled → Reg Y) (hi : PIG Reg X tg iter wi)
    (hg : ∀ C fp s H, PG (cxC X xs ix scope C fp s H) tg g) (ht : ∀ C fp s H, PTs (cxC X xs ix scope C fp s H) ifs tt) (he : ∀ C fp s H, PE (cxC X xs ix scope C fp s H) elt te)
    {pins : List (Addr × Obj)} {s : Shared} {σ : St} {H : Hp} {Q : VK} (I : Inv X pins σ H s) (h : tLC xs ix wi g tt te σ H Q) {use : Option (Value → Sem Unit)} {R : Value → Shared → Prop}
    (fin : ∀ (acc C : Addr) (H' : Hp) (s' : Shared) (m : Str → Option Value), Q (.ref acc) H' → s'.heap.Ns C m → (∀ h', Heap.SameBut C s'.heap h' → ∀ tk, Inv X pins σ H' { s' with heap := h', toks := tk }) → (X.s₀.heap.objs.size ≤ C ∧ C ≠ X.env.locals ∧ (∀ x c, X.env.cells.lookup x = some c → c ≠ C) ∧ (∀ p ∈ X.pn ++ pins, p.1 ≠ C) ∧ H' C = none) → compPost (model X.prog X.w) X.A X.xe use R (.ref acc) C (.ok .next) s') :
    wpAny (model X.prog X.w) X.A (eval iter X.env) (fun x s₁ => wpAny (model X.prog X.w) X.A (pyIter x) (fun it s₂ => wpAny (model X.prog X.w) X.A (newList []) (fun acc s₃ =>
      wpAny (model X.prog X.w) X.A (newFunctionEnv scope X.env.globals (clF X.env scope.names []) [] X.env.qual none .none (some X.env)) (fun cenv s₄ =>
        codeAny (model X.prog X.w) X.A (.compStart (.ListComp elt [⟨tg, iter, ifs, 0⟩] scope pos) 0 it acc { cenv with scope := relabel scope X.env }) (compPost (model X.prog X.w) X.A X.xe use R acc cenv.locals) s₄) X.xe s₃) X.xe s₂) X.xe s₁) X.xe s := by
  refine thn (hi pins s σ H _ I h) fun v s1 h1 => thn h1 fun itv s2 h2 => ?_
  obtain ⟨it, fp, tn, J, H2, rfl, I2, T, st2, f2, q⟩ := h2
  refine wpAny_newObj_type ?_
  have I3 : Inv X pins σ (upd H2 s2.heap.objs.size (.lst [])) { s2 with heap := s2.heap.push { cls := .type "list", data := .seq ([] : List Value).toArray }, toks := s2.toks } := I2.lnew (ys := []) (its := []) .nil (Nat.zero_le _)
  obtain ⟨W, ⟨m0, w0⟩, turn⟩ := q s2.heap.objs.size I2.fresh
  have objs2 := T.obj 0 _ st2
  have neacc : ∀ b ∈ fp, b ≠ s2.heap.objs.size := fun b hb z => by
    obtain ⟨o, ho, _⟩ := objs2 b hb
    exact Nat.lt_irrefl _ (Nat.lt_of_lt_of_eq (Heap.lt_size ho) z.symm)
  generalize hacc : s2.heap.objs.size = acc at *
  generalize hs3 : ({ s2 with heap := s2.heap.push { cls := .type "list", data := .seq ([] : List Value).toArray } } : Shared) = s3
  have I3 : Inv X pins σ (upd H2 acc (.lst [])) s3 := by rw [← hs3]; exact I3
  have k3 : ∀ b o, s2.heap.get? b = some o → s3.heap.get? b = some o := fun b o e => by rw [← hs3]; exact Heap.get?_push_of_some _ e
  have f3 : ∀ b ∈ fp, FpOk X pins (upd H2 acc (.lst [])) b := fun b hb => ⟨by rw [upd_ne (neacc b hb)]; exact (f2 b hb).1, (f2 b hb).2⟩
  have o3 : ∀ b ∈ fp, ∃ o, s3.heap.get? b = some o := fun b hb => let ⟨o, ho, _⟩ := objs2 b hb; ⟨o, k3 b o ho⟩
  have st3 : tn 0 s3.heap := T.keep _ _ _ st2 fun b _ o e => k3 b o e
  refine wpAny_newFunctionEnv S.nocell (by intro y hy; simp at hy) (fun h1 hns1 hsb1 => ?_) S.kind
  have keep1 : ∀ b o, s3.heap.get? b = some o → h1.get? b = some o := fun b o e => hsb1.extBut b o (Nat.ne_of_lt (Heap.lt_size e)) (Heap.get?_push_of_some _ e)
  generalize hs4 : ({ s3 with heap := h1, toks := s3.toks + ([] : List (Str × Value)).length } : Shared) = s4
  have I4 : Inv (cxC X xs ix scope s3.heap.objs.size fp s3 (upd H2 acc (.lst []))) [] (stC xs ix σ) (upd H2 acc (.lst [])) s4 := block_start S I3 f3 o3 hns1 keep1 hs4.symm
  have st4 : tn 0 s4.heap := T.keep _ _ _ st3 fun b _ o e => by rw [← hs4]; exact keep1 b o e
  generalize hX' : cxC X xs ix scope s3.heap.objs.size fp s3 (upd H2 acc (.lst [])) = X' at *
  have hg := hg s3.heap.objs.size fp s3 (upd H2 acc (.lst []))
  have ht := ht s3.heap.objs.size fp s3 (upd H2 acc (.lst []))
  have he := he s3.heap.objs.size fp s3 (upd H2 acc (.lst []))
  rw [hX'] at hg ht he
  have eP : X'.prog = X.prog := by rw [← hX']; rfl
  have ew : X'.w = X.w := by rw [← hX']; rfl
  have eK : X'.K = X.K := by rw [← hX']; rfl
  have eA : X'.A = X.A := by rw [← hX']; rfl
  have ec : Reg X' := hreg X' eK (by rw [← hX']; rfl) (by rw [← hX']; rfl)
  have ex : X'.xe = fun _ _ => False := by rw [← hX']; rfl
  have eenv : X'.env = compEnvC scope (clF X.env scope.names []) s3.heap.objs.size X.env := by rw [← hX']; rfl
  have eex : X'.ex = fp := by rw [← hX']; rfl
  have efs : X'.fs = frs X.stack := by rw [← hX']; rfl
  have epn : X'.pn = [] := by rw [← hX']; rfl
  have eH0 : X'.H₀ = upd H2 acc (.lst []) := by rw [← hX']; rfl
  have es0 : X'.s₀ = s3 := by rw [← hX']; rfl
  have eloc : X'.env.locals = s3.heap.objs.size := by rw [eenv]; rfl
  have stat : ∀ {H' : Hp}, (∀ b ∈ fp, H' b = none) → ∀ b ∈ fp, FpOk X' [] H' b := fun {H'} hn b hb => by
    refine ⟨hn b hb, ?_, ?_, .inl (by rw [eex]; exact hb), ?_, ?_⟩
    · rw [eloc]
      intro z
      obtain ⟨o, ho⟩ := o3 b hb
      exact Nat.lt_irrefl _ (Nat.lt_of_lt_of_eq (Heap.lt_size ho) z.symm)
    · exact I4.ok.exfs b (by rw [eex]; exact hb)
    · exact (I4.ok.exf b (by rw [eex]; exact hb)).2
    · rw [epn]; intro p hp; exact absurd hp (by simp)
  have loop : codeAny (model X.prog X.w) X.A (.compLoop (.ListComp elt [⟨tg, iter, ifs, 0⟩] scope pos) 0 (.ref it) (.ref acc) X'.env) (compPost (model X.prog X.w) X.A X.xe use R (.ref acc) s3.heap.objs.size) s4 := by
    refine lc_loop (fun n s' => ∃ i ys τ H', Inv X' [] τ H' s' ∧ tn i s'.heap ∧ (∀ b ∈ fp, H' b = none) ∧ W i n ys τ H') ?_ m0 ⟨0, [], _, _, I4, st4, fun b hb => (f3 b hb).1, w0⟩
    rintro n s5 ⟨i, ys, τ, H5, I5, st5, fr5, w5⟩
    obtain ⟨ha5, hz5, way⟩ := turn i n ys τ H5 w5
    rcases way with ⟨stop, qn⟩ | ⟨go, N, hN, step⟩
    · have d := T.done X' eP ew ec i [] s5 τ H5 (fun _ _ => False) I5 (stat fr5) st5 stop
      rw [eA] at d
      refine thn d fun r s6 hz46 => ?_
      obtain ⟨hr, I6⟩ := hz46
      subst hr
      obtain ⟨m, hn6, _⟩ := id I6.loc
      rw [eloc] at hn6
      refine fin acc s3.heap.objs.size H5 s6 m qn hn6 (fun h' hsb tk => ?_) ⟨I3.sz, Ne.symm (Nat.ne_of_lt I3.lt), fun x c e z => by
        obtain ⟨v, oc, hoc, _⟩ := I3.cell x c e
        exact Nat.lt_irrefl _ (Nat.lt_of_lt_of_eq (Heap.lt_size hoc) z.symm), fun p hp z => Nat.lt_irrefl _ (Nat.lt_of_lt_of_eq (Heap.lt_size (I3.pin p hp).1) z.symm), by have := I6.free; rw [eloc] at this; exact this⟩
      have same : ∀ b, b ≠ s3.heap.objs.size → h'.get? b = s6.heap.get? b := fun b hb => hsb.2 b hb
      have ub := I6.base
      rw [efs, eex, eH0, es0] at ub
      have ne3 : ∀ b o, s3.heap.get? b = some o → b ≠ s3.heap.objs.size := fun b o e => Nat.ne_of_lt (Heap.lt_size e)
      have u : Un (frs X.stack) fp (upd H2 acc (.lst [])) H5 s3.heap h' :=
        ⟨fun b o e n1 n2 n3 => (same b (ne3 b o e)).trans (ub.keep b o e n1 n2 n3), fun b o e n1 n2 n3 => by
            obtain ⟨sl, z⟩ := ub.slot b o e n1 n2 n3
            exact ⟨sl, (same b (ne3 b o e)).trans z⟩, ub.free, fun b o e n3 => by
            obtain ⟨o', z⟩ := ub.there b o e n3
            exact ⟨o', (same b (ne3 b o e)).trans z⟩, ub.tups, ub.frzs, ub.tbls⟩
      have fC : H5 s3.heap.objs.size = none := by have := I6.free; rw [eloc] at this; exact this
      have hok : HOk X.prog X.w H5 h' := fun b o e => by
        have z := I6.hok b o e
        rw [eP, ew] at z
        refine z.stay (fun c u hc q => (same c ?_).trans q) (fun _ q => q) fun _ _ q => q
        intro zc
        rcases hc with q1 | q1
        · rw [← q1, zc, fC] at e; cases e
        · rw [zc, fC] at q1; cases q1
      have hch : ∀ b ∈ fp, (b ∈ X.ex ∨ X.s₀.heap.objs.size ≤ b) ∧ b ≠ X.env.locals ∧ (∀ x c, X.env.cells.lookup x = some c → c ≠ b) ∧ ∀ p ∈ X.pn ++ pins, p.1 ≠ b := fun b hb => by
        obtain ⟨_, f1, _, g3, g4, g5⟩ := f3 b hb
        exact ⟨g3, f1, g4, g5⟩
      have ho : s6.os = s3.os := by have := I6.os; rw [es0] at this; exact this
      exact I3.call' (s' := { s6 with heap := h', toks := tk }) (ch := fp) ho u hok I6.bare hch
    · have d := T.item X' eP ew ec i [] s5 τ H5 (fun _ _ => False) I5 (stat fr5) st5 go
      rw [eA] at d
      refine thn d fun r s6 hz47 => ?_
      obtain ⟨u, hr, h6⟩ := hz47
      subst hr
      refine thn h6 fun _ s7 hz48 => ?_
      obtain ⟨x, H7, I7, r7, y7, st7, fr7⟩ := hz48
      have I7' := I7.pinned (stat fr7) (T.obj _ _ st7)
      have dg := hg _ s7 τ H7 x u _ I7' r7 (step x H7 y7)
      rw [eP, ew, eA, ex] at dg
      refine thn dg fun _ s8 hz49 => ?_
      obtain ⟨τ8, H8, I8, q8⟩ := hz49
      have dt := ht _ s8 τ8 H8 _ I8 q8
      rw [eP, ew, eA, ex] at dt
      refine thn dt fun ok s9 hz50 => ?_
      obtain ⟨H9, I9, q9⟩ := hz50
      have again : ∀ {τ' : St} {H' : Hp} {s' : Shared}, Inv X' ([] ++ pinsAt fp s7.heap) τ' H' s' → Inv X' [] τ' H' s' ∧ tn (i + 1) s'.heap ∧ ∀ b ∈ fp, H' b = none := fun {τ' H' s'} Ie => by
        refine ⟨Ie.unpinned, T.keep _ _ _ st7 fun b hb o e => (Ie.pin (b, o) (List.mem_append_right _ (List.mem_append_right _ (mem_pinsAt hb e)))).1, fun b hb => ?_⟩
        obtain ⟨o, e, _⟩ := T.obj _ _ st7 b hb
        exact (Ie.pin (b, o) (List.mem_append_right _ (List.mem_append_right _ (mem_pinsAt hb e)))).2.1
      cases ok with
      | false =>
        rw [if_neg Bool.false_ne_true] at q9 ⊢
        obtain ⟨m', hm, w9⟩ := hN _ _ _ q9
        obtain ⟨z1, z2, z3⟩ := again I9
        exact ⟨m', hm, i + 1, ys, τ8, H9, z1, z2, z3, w9⟩
      | true =>
        rw [if_pos rfl] at q9 ⊢
        have de := he _ s9 τ8 H9 _ I9 q9
        rw [eP, ew, eA, ex] at de
        refine thn de fun yv s10 hz51 => ?_
        obtain ⟨y, H10, I10, r10, ha10, n10⟩ := hz51
        obtain ⟨m', hm, w10⟩ := hN _ _ _ n10
        have dm := mt_append (X := X') _ s10 τ8 H10 (.ref acc) [y] (.ref acc) [yv] (fun v H' => v = .non ∧ H' = upd H10 acc (.lst (ys ++ [y]))) I10 rfl (.cons r10 .nil) ⟨acc, ys, y, rfl, rfl, ha10, hz5, rfl, rfl⟩
        rw [eP, ew, eA, ex] at dm
        refine thn dm fun _ s11 hz52 => ?_
        obtain ⟨_, H11, I11, _, _, e11⟩ := hz52
        subst e11
        obtain ⟨z1, z2, z3⟩ := again I11
        exact ⟨m', hm, i + 1, ys ++ [y], τ8, _, z1, z2, z3, w10⟩
  have e4 : ({ newEnv scope s3.heap.objs.size X.env.globals (clF X.env scope.names []) X.env.qual none .none (some X.env) builtinsNs with scope := relabel scope X.env } : Env) = X'.env := by rw [eenv]; rfl
  rw [eenv] at loop
  have self := T.self X.A 0 s4 (fun it' s' => codeAny (model X.prog X.w) X.A (.compLoop (.ListComp elt [⟨tg, iter, ifs, 0⟩] scope pos) 0 it' (.ref acc) (compEnvC scope (clF X.env scope.names []) s3.heap.objs.size X.env)) (compPost (model X.prog X.w) X.A X.xe use R (.ref acc) s3.heap.objs.size) s')
    (notedBy (model X.prog X.w) X.A (compEnvC scope (clF X.env scope.names []) s3.heap.objs.size X.env) fun x s' => compPost (model X.prog X.w) X.A X.xe use R (.ref acc) s3.heap.objs.size (.error x) s') st4 loop
  exact codeAny_compStart_list loop self
theorem lc_core {X : Cx} {xs : List Str} {ix : List Nat} {scope : Scope} {elt tg iter : Expr} {ifs : List Expr} {pos : Pos} {wi : TI} {g : TG} {tt : TT} {te : TE}
    (S : CompScope X xs ix scope) (hc : X.calm = true) (hi : PI X tg iter wi)
    (hg : ∀ C fp s H, PG (cxC X xs ix scope C fp s H) tg g) (ht : ∀ C fp s H, PTs (cxC X xs ix scope C fp s H) ifs tt) (he : ∀ C fp s H, PE (cxC X xs ix scope C fp s H) elt te)
    {pins : List (Addr × Obj)} {s : Shared} {σ : St} {H : Hp} {Q : VK} (I : Inv X pins σ H s) (h : tLC xs ix wi g tt te σ H Q) {use : Option (Value → Sem Unit)} {R : Value → Shared → Prop}
    (fin : ∀ (acc C : Addr) (H' : Hp) (s' : Shared) (m : Str → Option Value), Q (.ref acc) H' → s'.heap.Ns C m → (∀ h', Heap.SameBut C s'.heap h' → ∀ tk, Inv X pins σ H' { s' with heap := h', toks := tk }) → (X.s₀.heap.objs.size ≤ C ∧ C ≠ X.env.locals ∧ (∀ x c, X.env.cells.lookup x = some c → c ≠ C) ∧ (∀ p ∈ X.pn ++ pins, p.1 ≠ C) ∧ H' C = none) → compPost (model X.prog X.w) X.A X.xe use R (.ref acc) C (.ok .next) s') :
    wpAny (model X.prog X.w) X.A (eval iter X.env) (fun x s₁ => wpAny (model X.prog X.w) X.A (pyIter x) (fun it s₂ => wpAny (model X.prog X.w) X.A (newList []) (fun acc s₃ =>
      wpAny (model X.prog X.w) X.A (newFunctionEnv scope X.env.globals (clF X.env scope.names []) [] X.env.qual none .none (some X.env)) (fun cenv s₄ =>
        codeAny (model X.prog X.w) X.A (.compStart (.ListComp elt [⟨tg, iter, ifs, 0⟩] scope pos) 0 it acc { cenv with scope := relabel scope X.env }) (compPost (model X.prog X.w) X.A X.xe use R acc cenv.locals) s₄) X.xe s₃) X.xe s₂) X.xe s₁) X.xe s :=
  lc_coreG (Reg := fun Y => Y.K = X.K ∧ Y.calm = true) S (fun Y k c _ => ⟨k, c.trans hc⟩)
    (fun pins s σ H R I q => thn (hi pins s σ H R I q) fun v s1 h1 => thn h1 fun itv s2 h2 => by
      obtain ⟨it, fp, tn, J, H', e, I', T, r⟩ := h2
      exact ⟨it, fp, tn, J, H', e, I', ⟨T.mem, T.obj, T.keep, fun Y e1 e2 r => T.item Y e1 e2 r.1 r.2, fun Y e1 e2 r => T.done Y e1 e2 r.1 r.2, T.self⟩, r⟩) hg ht he I h fin
theorem pe_lc {X : Cx} {xs : List Str} {ix : List Nat} {scope : Scope} {elt tg iter : Expr} {ifs : List Expr} {pos : Pos} {wi : TI} {g : TG} {tt : TT} {te : TE}
    (S : CompScope X xs ix scope) (hc : X.calm = true) (hi : PI X tg iter wi)
    (hg : ∀ C fp s H, PG (cxC X xs ix scope C fp s H) tg g) (ht : ∀ C fp s H, PTs (cxC X xs ix scope C fp s H) ifs tt) (he : ∀ C fp s H, PE (cxC X xs ix scope C fp s H) elt te)
    (hs : ∀ x, foldedSetIterable iter X.env x = pure x := by intro _; rfl) :
    PE X (.ListComp elt [⟨tg, iter, ifs, 0⟩] scope pos) (tLC xs ix wi g tt te) := by
  intro pins s σ H Q I h
  have hcl : ∀ n, (n, NameKind.free) ∈ scope.names → (X.env.cells.lookup n).isSome = true := fun n hn => by
    obtain ⟨c, e⟩ := I.ok.has n (S.fre n hn)
    rw [e]; rfl
  rw [eval_ListComp]
  refine wpAny_comprehension_free (use := none) rfl hs (closureFor_clF hcl) S.kind S.loc ?_
  refine lc_core S hc hi hg ht he I h fun acc C H' s' m q hn k _ => ?_
  exact ⟨m, hn, fun h' hsb => ⟨.ref acc, H', k h' hsb s'.toks, rfl, q⟩⟩
end L2
set_option Elab.async false
set_option linter.all false
set_option maxRecDepth 100000
set_option maxHeartbeats 4000000
namespace L2
open PySem PySem.Spec PyProof.Rows
noncomputable def Its (x : Str) : It := ⟨fun i _ => i < x.cps.size, fun i H v H' => H' = H ∧ ∃ c, x.cps[i]? = some c ∧ v = .str ⟨#[c]⟩, fun i _ => i = x.cps.size⟩
theorem turn_str {P : Program} {w : World} {K : PySem.W.Frag} {tg : Expr} (it : Addr) (x : Str) (t : Tok) (ty : String)
    (hty : ["enumerate", "zip", "dict_itemiterator", "dict_reverseitemiterator", "odict_iterator", "itertools.zip_longest", "itertools.pairwise"].contains ty = false)
    (W : ∀ A : Around, A.handled = none → Walks P w A it [it] [it] x.cps.size (SignAt x) (fun i h => h.IsStrIter it ty x t i))
    (self : ∀ (A : Around) (i : Nat) (s : Shared) (Q : Value → Shared → Prop) (E : Value → Shared → Prop), s.heap.IsStrIter it ty x t i → Q (.ref it) s → wpAny (model P w) A (pyIter (.ref it)) Q E s) :
    Turn P w K tg (Its x) [it] it (fun i h => h.IsStrIter it ty x t i) where
  mem := by simp
  obj := fun i h st b hb => by
    have e : b = it := by simpa using hb
    subst e
    obtain ⟨o, e, c, d⟩ := st
    exact ⟨o, e, fun v z => by rw [d] at z; cases z⟩
  keep := fun i h h' st k => let ⟨o, e, r⟩ := st; ⟨o, k it (by simp) o e, r⟩
  item := by
    intro X hP hw hK hc i pins s σ H E I hf st hg
    subst hP hw hK
    obtain ⟨f0, f1, f2, f3, f4, f5⟩ := hf it (by simp)
    refine (W X.A (I.ok.hd hc)).item i s _ _ hg st fun v h' tk hv st' kk => ?_
    obtain ⟨c, u, hcx, rfl⟩ := hv
    have I1 : Inv X pins σ H { s with heap := h', toks := tk } := I.turned (fun b o hb e => kk b o (by simpa using hb) e) f0 f1 f3 f4 f5
    obtain ⟨o, e, c', d⟩ := id st'
    exact ⟨_, rfl, go_of (s := { s with heap := h', toks := tk }) e c' d hty ⟨.str ⟨#[c]⟩, H, I1, ⟨u, rfl⟩, ⟨rfl, c, hcx, rfl⟩, st', fun b hb => (hf b hb).1⟩⟩
  done := by
    intro X hP hw hK hc i pins s σ H E I hf st hg
    subst hP hw hK
    obtain ⟨f0, f1, f2, f3, f4, f5⟩ := hf it (by simp)
    have hg' : i = x.cps.size := hg
    subst hg'
    exact (W X.A (I.ok.hd hc)).done s _ _ st fun h' tk kk => ⟨rfl, I.turned (fun b o hb e => kk b o (by simpa using hb) e) f0 f1 f3 f4 f5⟩
  self := self
section
variable {X : Cx} {tg : Expr}
noncomputable def iStr (tl : TE) : TI := fun σ H R => tl σ H fun x H1 => ∃ z, x = .str z ∧ R (Its z) H1
theorem pi_str {l : Expr} {tl : TE} (hl : PE X l tl) : PI X tg l (iStr tl) := by
  intro pins s σ H R I h
  refine thn (hl pins s σ H _ I h) fun v s1 hz53 => ?_
  obtain ⟨x, H1, I1, r1, q1⟩ := hz53
  obtain ⟨z, e, q⟩ := q1
  subst e
  obtain ⟨t, rfl⟩ := (show ∃ t, v = Value.str z t from r1)
  have fin : ∀ (o : Obj) (ty : String), o.cls = .type ty → o.data = .fields #[.str z t, .int 0 0] →
      ["enumerate", "zip", "dict_itemiterator", "dict_reverseitemiterator", "odict_iterator", "itertools.zip_longest", "itertools.pairwise"].contains ty = false →
      o.isFreed = false →
      (∀ A : Around, A.handled = none → Walks X.prog X.w A s1.heap.objs.size [s1.heap.objs.size] [s1.heap.objs.size] z.cps.size (SignAt z) (fun i h => h.IsStrIter s1.heap.objs.size ty z t i)) →
      (∀ (A : Around) (i : Nat) (s : Shared) (Q : Value → Shared → Prop) (E : Value → Shared → Prop), s.heap.IsStrIter s1.heap.objs.size ty z t i → Q (.ref s1.heap.objs.size) s → wpAny (model X.prog X.w) A (pyIter (.ref s1.heap.objs.size)) Q E s) →
      PIE X pins σ tg R (.ref s1.heap.objs.size) { s1 with heap := s1.heap.push o } := fun o ty h1 h2 h3 hfr W self => by
    refine ⟨s1.heap.objs.size, [s1.heap.objs.size], _, _, H1, rfl, I1.kept (t' := s1.toks) fun b o e => Heap.get?_push_of_some _ e, turn_str _ z t ty h3 W self, ⟨o, Heap.get?_push_size _ hfr, h1, h2⟩, fun b hb => ?_, q⟩
    have e : b = s1.heap.objs.size := by simpa using hb
    subst e
    exact I1.fpOk (Nat.le_refl _) (I1.hok.fresh (Nat.le_refl _))
  cases ha : z.cps.all (· < 128)
  · exact wpAny_pyIter_wide ha (fin _ "str_iterator" rfl rfl (by decide) rfl (fun A hA => Walks.strWide hA _ z t) fun _ _ _ _ _ st hQ => wpAny_pyIter_striter_wide st hQ)
  · exact wpAny_pyIter_ascii ha (fin _ "str_ascii_iterator" rfl rfl (by decide) rfl (fun A hA => Walks.strAscii hA _ z t) fun _ _ _ _ _ st hQ => wpAny_pyIter_striter_ascii st hQ)
theorem in1_handled {A : Around} (h : A.handled = none) : A.in1.handled = none := h
theorem bools_get {ys : List Bool} {its : List Value} (r : Vals (ys.map V.bl) its) {i : Nat} {v : Value} (h : its[i]? = some v) : ∃ b, ys[i]? = some b ∧ v = .bool b := by
  have hl := r.length
  rw [List.length_map] at hl
  have hi : i < its.length := (List.getElem?_eq_some_iff.mp h).1
  obtain ⟨u, e1, e2⟩ := r.get (i := i) (x := V.bl (ys[i]'(by omega))) (by rw [List.getElem?_map, List.getElem?_eq_getElem (by omega)]; rfl)
  rw [h] at e1
  cases e1
  exact ⟨_, List.getElem?_eq_getElem (by omega), e2⟩
theorem range_all (ys : List Bool) : (List.range ys.length).all (fun i => ys.getD i false) = ys.all id := by
  have e : ys = (List.range ys.length).map (fun i => ys.getD i false) := by
    apply List.ext_getElem (by simp)
    intro i h1 h2
    simp [List.getD_eq_getElem?_getD, List.getElem?_eq_getElem h1]
  conv => rhs; rw [e]
  rw [List.all_map]; rfl
theorem call_all (hc : X.calm = true) : CallR X (.builtin "all") (fun xs H Q => ∃ (p : Addr) (ys : List Bool), xs = [.ref p] ∧ SqL X.K H p (ys.map V.bl) ∧ Q (.bl (ys.all id)) H) := by
  intro pins s σ H xs us Q I r h
  obtain ⟨p, ys, rfl, hq, q⟩ := h
  obtain ⟨u, rfl, ru⟩ := r.one
  cases ru
  obtain ⟨its, rv, pl, hz⟩ := I.list hq
  have hl := rv.length
  rw [List.length_map] at hl
  refine call_all_walk (wpAny_pyIter_list pl.isList ?_)
  have hp : p < s.heap.objs.size := by obtain ⟨o, ho, _⟩ := pl.isList; exact Heap.lt_size ho
  refine ⟨s.heap.objs.size, _, _, _, _, _, fun i => ys.getD i false, rfl, Walks.list (in1_handled (I.ok.hd hc)) _ p (Nat.ne_of_lt hp) its.toArray, ⟨⟨_, Heap.get?_push_size _ rfl, rfl, rfl⟩, ?_⟩, ?_, fun h' tk kk => ?_⟩
  · obtain ⟨o, ho, r⟩ := pl.isList
    exact ⟨o, Heap.get?_push_of_some _ ho, r⟩
  · intro i v s' Q' E' hP hQ
    obtain ⟨b, e1, rfl⟩ := bools_get rv (by simpa using hP)
    refine wpAny_truthy_bool ?_
    have e2 : ys.getD i false = b := by rw [List.getD_eq_getElem?_getD, e1]; rfl
    rw [← e2]; exact hQ
  · refine ⟨.bl (ys.all id), H, I.kept fun b o e => kk b o ?_ (Heap.get?_push_of_some _ e), ?_, q⟩
    · intro z; have z' : b = s.heap.objs.size := by simpa using z
      exact Nat.ne_of_lt (Heap.lt_size e) z'
    · have e3 : its.toArray.size = ys.length := by simp; omega
      rw [e3, range_all]; rfl
theorem call_isinst : CallR X (.builtin "isinstance") (fun xs H Q => ∃ x t T b, xs = [x, .ty T] ∧ TyOf X.K H x t ∧ PySem.W.kitOne X.K t (.type T) = some b ∧ Q (.bl b) H) := by
  intro pins s σ H xs us Q I r h
  obtain ⟨x, t, T, b, rfl, ty, e, q⟩ := h
  obtain ⟨u, v, rfl, ru, rv⟩ := r.two
  cases rv
  exact isinst_ok I ru ty e fun tk => ⟨.bl b, H, I.tok tk, rfl, q⟩
theorem call_isinstC : CallR X (.builtin "isinstance") (fun xs H Q => ∃ x t C b, xs = [x, .ref C] ∧ TyOf X.K H x t ∧ PySem.W.kitOne X.K t (.ref C) = some b ∧ Q (.bl b) H) := by
  intro pins s σ H xs us Q I r h
  obtain ⟨x, t, T, b, rfl, ty, e, q⟩ := h
  obtain ⟨u, v, rfl, ru, rv⟩ := r.two
  cases rv
  exact isinst_ok I ru ty e fun tk => ⟨.bl b, H, I.tok tk, rfl, q⟩
noncomputable def rSlS : V → Option Int → Option Int → Hp → VK → Prop := fun x lo hi H Q => ∃ z, x = .str z ∧ z.length ≤ sizeLine ∧ Q (.str (Txt.slice z lo hi)) H
theorem sl_str : SlR X rSlS := by
  intro pins s σ H x v vl vu lo hi sl Q I rx hs pl pu h
  obtain ⟨z, rfl, hz, q⟩ := h
  obtain ⟨t, rfl⟩ := (show ∃ t, v = Value.str z t from rx)
  refine ⟨"str", _, F.slot_str_getitem.lookup, typeIs_str _ _ _, ?_⟩
  have key : ∀ (l u : Option (Int × Tok)), vl = partValue l → vu = partValue u → lo = l.map (·.1) → hi = u.map (·.1) →
      wpAny (model X.prog X.w) X.A (getItem (.str z t) (.ref sl)) (EP X pins σ Q) X.xe s := by
    intro l u e1 e2 e3 e4
    subst e1 e2
    refine wpAny_getItem_str_slice (l := l) (u := u) (st := none) hs rfl ?_
    unfold sliceMade
    have ee : Txt.slice z lo hi = if (((none : Option (Int × Tok)).map (·.1)).getD 1 == 1 && (slicePicked z l u none).length == z.length) = true then z else ⟨((slicePicked z l u none).filterMap (z.cps[·]?)).toArray⟩ := by
      rw [e3, e4]; rfl
    split
    · rename_i c
      rw [if_pos c] at ee
      rw [ee] at q
      exact ⟨.str z, H, I, ⟨t, rfl⟩, q⟩
    · rename_i c
      rw [if_neg c] at ee
      rw [ee] at q
      have hle := Txt.slice_le z lo hi
      rw [ee] at hle
      exact ⟨Nat.le_trans hle hz, .str _, H, I.tok _, ⟨_, rfl⟩, q⟩
  cases pl with
  | none =>
    cases pu with
    | none => exact key none none rfl rfl rfl rfl
    | int j tj => exact key none (some (j, tj)) rfl rfl rfl rfl
  | int i ti =>
    cases pu with
    | none => exact key (some (i, ti)) none rfl rfl rfl rfl
    | int j tj => exact key (some (i, ti)) (some (j, tj)) rfl rfl rfl rfl
theorem strs_of : ∀ {ys : List Str} {us : List Value}, Vals (ys.map V.str) us → StrsAre us ys
  | [], _, .nil => .nil
  | y :: ys, _, .cons r t => by
    obtain ⟨k, rfl⟩ := r
    exact .cons y k (strs_of t)
theorem mt_join : MtR X "str.join" (fun x xs H Q => ∃ (z : Str) (p : Addr) (ys : List Str), x = .str z ∧ xs = [.ref p] ∧ SqL X.K H p (ys.map V.str) ∧ (ys.map (·.length)).sum + ys.length * z.length ≤ 16777216 ∧ Q (.str (Txt.join z ys)) H) := by
  intro pins s σ H x xs v us Q I rx rs h
  obtain ⟨z, p, ys, rfl, rfl, hq, hz, q⟩ := h
  obtain ⟨t, rfl⟩ := (show ∃ t, v = Value.str z t from rx)
  obtain ⟨u, rfl, ru⟩ := rs.one
  cases ru
  obtain ⟨its, rv, pl, hl⟩ := I.list hq
  exact join_list pl.isList (strs_of (by simpa using rv)) hz fun t' k => ⟨.str _, H, I.tok k, ⟨t', rfl⟩, q⟩
theorem op_fdivB : OpR X (binaryOp .FloorDiv) (rI (fun _ j => 0 < j ∧ j < 2 ^ 62) fun i j => .int (i / j)) := opI fun i j _ _ _ _ _ hc q => by
  have hp : (0 : Int) < j := hc.1
  have hq : j < 2 ^ 62 := hc.2
  have hlog : j.natAbs.log2 < 9000 := by
    have h1 : j.natAbs ≠ 0 := by omega
    have h2 : j.natAbs.log2 < 62 := (Nat.log2_lt h1).mpr (by omega)
    omega
  exact floordiv_int (by omega) (by rw [Int.fdiv_eq_ediv_of_nonneg i (by omega)]; exact q) (.inl (PyProof.noPylong_of_log2 hlog))
end
end L2
set_option Elab.async false
set_option linter.all false
set_option maxRecDepth 100000
set_option maxHeartbeats 4000000
namespace L2
open PySem PySem.Spec PyProof.Rows
structure FunG (K : PySem.W.Frag) (mg : Str → Option Value) (x : Str) (st : Stmt) (ps : List Str) : Prop where
  ex : ∃ (f : Addr) (fd : FuncData), Fun K x x st f fd ∧ mg x = some (.ref f) ∧ Binds K fd ps []
structure Cal (P : Program) (w : World) (K : PySem.W.Frag) (mg : Str → Option Value) (base : Heap) (CX : CXT) (k : Nat) (x : Str) (ps : List Str) (sp : Sp) : Prop where
  ex : ∃ (f : Addr) (fd : FuncData), FnOk P w K mg base CX k f fd ps sp ∧ mg x = some (.ref f) ∧ PySem.W.keepIn K (.ref f) = true ∧ Binds K fd ps []
section
variable {P : Program} {w : World} {K : PySem.W.Frag} {mg : Str → Option Value} {base : Heap}
theorem FunG.ok {x : Str} {st : Stmt} {N ps : List Str} {k : Nat} {sp : Sp} (G : FunG K mg x st ps) (S : FnScope N ps (defScope st)) (len : ∀ vs H Q E, sp vs H Q E → vs.length = ps.length)
    (hbody : ∀ (f : Addr) (cdv : Value) (A : Around) (outer : List Env) (s : Shared) (H : Hp) (vs : List V) (Q : VK) (E : XK), Room k (A.deeper (envOfC x (defScope st) s.heap.objs.size f cdv)) → sp vs H Q E →
      ∃ t, PSs (cxOf CX0 P w K mg base N x (defScope st) f cdv A outer s H E).nox (defBody st) t ∧ t { nx := fun _ H' => Q .non H', rt := Q } (start N vs) H) : Cal P w K mg base CX0 (k + 1) x ps sp := by
  obtain ⟨f, fd, F, hm, hb⟩ := G.ex
  exact ⟨f, fd, F.ok S len fun cdv A outer s H vs Q E hr h => hbody f cdv A outer s H vs Q E hr h, hm, F.kp, hb⟩
theorem funG_mk {h : Heap} {x : Str} {st : Stmt} {f : Addr} {oc : Value} {od an : Option Addr} {osl : Array (Option Value)} {kV doc pm cdv ct : Value} {ps : List Str} (X : K.In h) (G : h.Ns mainGlobals mg)
    (a : PySem.W.nsIn K mainGlobals x = some (some (.ref f)))
    (l : K.lookup f = some ⟨oc, od, .func (PySem.W.fnOf x x (defArgs st) (defBody st) (defScope st) .none kV doc pm an cdv ct), osl⟩) (c : PySem.W.codeIn K cdv x = true) (k : PySem.W.keepIn K (.ref f) = true)
    (hb : ∀ (kV doc pm : Value) (an : Option Addr) (cdv ct : Value) (us : List Value), us.length = ps.length → bindArgs (PySem.W.fnOf x x (defArgs st) (defBody st) (defScope st) .none kV doc pm an cdv ct) ⟨us, []⟩ = pure (ps.zip us)) : FunG K mg x st ps :=
  ⟨f, _, fun_mk l c k, PySem.W.mg_of X G a, (fun_mk l c k).binds hb⟩
end
section
variable {X : Cx} {CX : CXT} {k : Nat} {ps : List Str} {sp : Sp} {E : XK} {x : Str} {p pos : Pos} {e : Expr} {es : List Expr} {t : TA}
theorem pe_cal (C : Cal X.prog X.w X.K X.mg X.base CX0 k x ps sp) (hr : Room k X.A) (ha : PA X (e :: es) t) (hg : Gl X x := by rfl)
    (hdb : (x == ("__debug__" : Str)) = false := by decide) (he : starEach (e :: es) X.env = (false, eval e X.env) :: starEach es X.env := by rfl) (hpl : (backTo pos (starEach es X.env)).any (·.1) = false := by rfl) :
    PE X (.Call (.Name x p) (e :: es) [] pos) (tCall sp [] E0 t) :=
  let ⟨_, _, F, hm, hk, hb⟩ := C.ex
  pe_call F hr hg hm hk hb .nil pass0 ha hdb he hpl
structure Blt (mg : Str → Option Value) (x : Str) : Prop where
  no : mg x = none
theorem pe_blt {id : String} {r : List V → Hp → VK → Prop} (hc : CallR X (.builtin id) r) (b : Blt X.mg x) (hv : bootBuiltins x = some (.builtin id)) (ha : PA X (e :: es) t) (hg : Gl X x := by rfl) (hn : x ≠ "__name__" := by decide) (hdb : (x == ("__debug__" : Str)) = false := by decide)
    (he : starEach (e :: es) X.env = (false, eval e X.env) :: starEach es X.env := by rfl) (hpl : (backTo pos (starEach es X.env)).any (·.1) = false := by rfl) :
    PE X (.Call (.Name x p) (e :: es) [] pos) (tCB r t) := pe_callB hc hg b.no hv ha hn hdb he hpl
theorem pe_ty {T : String} (b : Blt X.mg x) (hv : bootBuiltins x = some (.type T)) (hg : Gl X x := by rfl) (hn : x ≠ "__name__" := by decide) (hd : (x == ("__debug__" : Str)) = false := by decide) : PE X (.Name x pos) (tC (.ty T)) :=
  pe_bltn hg b.no hv rfl hn hd
end
noncomputable def Keep (S : List Addr) (H H' : Hp) : Prop := ∀ b o, b ∉ S → H b = some o → H' b = some o
theorem Keep.refl {S : List Addr} (H : Hp) : Keep S H H := fun _ _ _ h => h
theorem Keep.trans {S : List Addr} {H H1 H2 : Hp} (a : Keep S H H1) (b : Keep S H1 H2) : Keep S H H2 := fun c o n h => b c o n (a c o n h)
theorem Keep.mono {S S' : List Addr} {H H1 : Hp} (a : Keep S H H1) (h : ∀ b ∈ S, b ∈ S') : Keep S' H H1 := fun c o n q => a c o (fun z => n (h c z)) q
theorem Keep.new {S : List Addr} {H : Hp} {p : Addr} {o : HO} (h : H p = none) : Keep S H (upd H p o) := fun b u _ q => by rw [upd_ne (ne_of_none q h)]; exact q
theorem Keep.at {S : List Addr} {H : Hp} {p : Addr} {o : HO} (h : p ∈ S) : Keep S H (upd H p o) := fun b u n q => by
  rw [upd_ne (fun z => n (by rw [z]; exact h))]; exact q
theorem Keep.none {S : List Addr} {H H' : Hp} (k : Keep S H H') {l : Addr} (n : l ∉ S) (h : H' l = Option.none) : H l = Option.none := by
  cases q : H l with
  | none => rfl
  | some o => rw [k l o n q] at h; cases h
theorem lc_by {J : It} {xs : List Str} {ix : List Nat} {g : TG} {tt : TT} {te : TE} {n : Nat} {σ : St} {H1 : Hp} {Q : VK} {acc : Addr} (hn : n < sizeLine) (item : Nat → V) (Pv : Nat → List V → St → Hp → Prop)
    (h0 : Pv 0 [] (stC xs ix σ) (upd H1 acc (.lst [])))
    (hacc : ∀ i ys τ H, Pv i ys τ H → H acc = some (.lst ys) ∧ ys.length ≤ i)
    (hgo : ∀ i ys τ H, i < n → Pv i ys τ H → J.go i H) (hyl : ∀ i ys τ H x H', i < n → Pv i ys τ H → J.yld i H x H' → H' = H ∧ x = item i) (hst : ∀ ys τ H, Pv n ys τ H → J.stop n H)
    (hs : ∀ i ys τ H, i < n → Pv i ys τ H → g (item i) τ H fun τ2 H2 => tt τ2 H2 fun b H3 =>
      if b = true then te τ2 H3 fun y H4 => H4 acc = some (.lst ys) ∧ Pv (i + 1) (ys ++ [y]) τ2 (upd H4 acc (.lst (ys ++ [y]))) else Pv (i + 1) ys τ2 H3)
    (hd : ∀ ys τ H, Pv n ys τ H → Q (.ref acc) H) :
    LCW J xs ix g tt te σ H1 acc Q := by
  refine ⟨fun i m ys τ H => m = n - i ∧ i ≤ n ∧ Pv i ys τ H, ⟨n, by simp, Nat.zero_le _, h0⟩, ?_⟩
  rintro i m ys τ H ⟨rfl, hi, p⟩
  obtain ⟨a1, a2⟩ := hacc i ys τ H p
  refine ⟨a1, by omega, ?_⟩
  by_cases hlt : i < n
  · refine .inr ⟨hgo i ys τ H hlt p, Pv (i + 1), fun ys' τ' H' p' => ⟨n - (i + 1), by omega, rfl, hlt, p'⟩, fun x H' y => ?_⟩
    obtain ⟨rfl, rfl⟩ := hyl i ys τ H x H' hlt p y
    exact hs i ys τ _ hlt p
  · have e : i = n := by omega
    subst e
    exact .inl ⟨hst ys τ H p, hd ys τ H p⟩
theorem lc_range {xs : List Str} {ix : List Nat} {g : TG} {tt : TT} {te : TE} {lo : Int} {n : Nat} {σ : St} {H1 : Hp} {Q : VK} {acc : Addr} (hn : n < sizeLine) (Pv : Nat → List V → St → Hp → Prop)
    (h0 : Pv 0 [] (stC xs ix σ) (upd H1 acc (.lst [])))
    (hacc : ∀ i ys τ H, Pv i ys τ H → H acc = some (.lst ys) ∧ ys.length ≤ i)
    (hs : ∀ i ys τ H, i < n → Pv i ys τ H → g (.int (lo + i)) τ H fun τ2 H2 => tt τ2 H2 fun b H3 =>
      if b = true then te τ2 H3 fun y H4 => H4 acc = some (.lst ys) ∧ Pv (i + 1) (ys ++ [y]) τ2 (upd H4 acc (.lst (ys ++ [y]))) else Pv (i + 1) ys τ2 H3)
    (hd : ∀ ys τ H, Pv n ys τ H → Q (.ref acc) H) :
    LCW (Itr lo n) xs ix g tt te σ H1 acc Q :=
  lc_by hn (fun i => .int (lo + i)) Pv h0 hacc (fun i _ _ _ h _ => h) (fun i _ _ _ _ _ _ _ h => h) (fun _ _ _ _ => Nat.le_refl n) hs hd
theorem lc_str {xs : List Str} {ix : List Nat} {g : TG} {tt : TT} {te : TE} {z : Str} {σ : St} {H1 : Hp} {Q : VK} {acc : Addr} (hn : z.cps.size < sizeLine) (Pv : Nat → List V → St → Hp → Prop)
    (h0 : Pv 0 [] (stC xs ix σ) (upd H1 acc (.lst [])))
    (hacc : ∀ i ys τ H, Pv i ys τ H → H acc = some (.lst ys) ∧ ys.length ≤ i)
    (hs : ∀ i ys τ H, i < z.cps.size → Pv i ys τ H → g (.str ⟨#[z.cps.getD i 0]⟩) τ H fun τ2 H2 => tt τ2 H2 fun b H3 =>
      if b = true then te τ2 H3 fun y H4 => H4 acc = some (.lst ys) ∧ Pv (i + 1) (ys ++ [y]) τ2 (upd H4 acc (.lst (ys ++ [y]))) else Pv (i + 1) ys τ2 H3)
    (hd : ∀ ys τ H, Pv z.cps.size ys τ H → Q (.ref acc) H) :
    LCW (Its z) xs ix g tt te σ H1 acc Q :=
  lc_by hn (fun i => .str ⟨#[z.cps.getD i 0]⟩) Pv h0 hacc (fun i _ _ _ h _ => h) (fun i _ _ _ x H' _ _ h => ⟨h.1, by
    obtain ⟨_, c, e, ex⟩ := h
    rw [ex, show z.cps.getD i 0 = c by rw [Array.getD_eq_getD_getElem?, e]; rfl]⟩) (fun _ _ _ _ => rfl) hs hd
theorem lc_list {K : PySem.W.Frag} {a : Addr} {its : List V} {xs : List Str} {ix : List Nat} {g : TG} {tt : TT} {te : TE} {σ : St} {H1 : Hp} {Q : VK} {acc : Addr} (hn : its.length < sizeLine) (Pv : Nat → List V → St → Hp → Prop)
    (h0 : Pv 0 [] (stC xs ix σ) (upd H1 acc (.lst [])))
    (hacc : ∀ i ys τ H, Pv i ys τ H → H acc = some (.lst ys) ∧ ys.length ≤ i ∧ SqL K H a its)
    (hs : ∀ i ys τ H x, its[i]? = some x → Pv i ys τ H → g x τ H fun τ2 H2 => tt τ2 H2 fun b H3 =>
      if b = true then te τ2 H3 fun y H4 => H4 acc = some (.lst ys) ∧ Pv (i + 1) (ys ++ [y]) τ2 (upd H4 acc (.lst (ys ++ [y]))) else Pv (i + 1) ys τ2 H3)
    (hd : ∀ ys τ H, Pv its.length ys τ H → Q (.ref acc) H) :
    LCW (Itl K a) xs ix g tt te σ H1 acc Q := by
  refine lc_by hn (fun i => its.getD i .non) Pv h0 (fun i ys τ H p => ⟨(hacc i ys τ H p).1, (hacc i ys τ H p).2.1⟩) (fun i ys τ H h p => ⟨its, its[i], (hacc i ys τ H p).2.2, by simp [h]⟩)
    (fun i ys τ H x H' h p y => ⟨y.1, ?_⟩) (fun ys τ H p => ⟨its, (hacc _ ys τ H p).2.2, Nat.le_refl _⟩) (fun i ys τ H h p => hs i ys τ H _ (by simp [List.getD_eq_getElem?_getD, h]) p) hd
  have e := y.2 its (hacc i ys τ H p).2.2
  rw [List.getD_eq_getElem?_getD, e]; rfl
theorem yes_in {g : TG} {te : TE} {x : V} {τ : St} {H : Hp} {R : St → Hp → VK} {N : St → Hp → Prop} (h : g x τ H fun τ2 H2 => te τ2 H2 (R τ2 H2)) :
    g x τ H fun τ2 H2 => tYes τ2 H2 fun b H3 => if b = true then te τ2 H3 (R τ2 H3) else N τ2 H3 := by
  have e : (fun τ2 H2 => tYes τ2 H2 fun b H3 => if b = true then te τ2 H3 (R τ2 H3) else N τ2 H3) = fun τ2 H2 => te τ2 H2 (R τ2 H2) := by
    funext τ2 H2
    show (if true = true then te τ2 H2 (R τ2 H2) else N τ2 H2) = _
    rw [if_pos rfl]
  rw [e]; exact h
theorem lc_range0 {xs : List Str} {ix : List Nat} {g : TG} {te : TE} {lo : Int} {n : Nat} {σ : St} {H1 : Hp} {Q : VK} {acc : Addr} (hn : n < sizeLine) (Pv : Nat → List V → St → Hp → Prop)
    (h0 : Pv 0 [] (stC xs ix σ) (upd H1 acc (.lst [])))
    (hacc : ∀ i ys τ H, Pv i ys τ H → H acc = some (.lst ys) ∧ ys.length ≤ i)
    (hs : ∀ i ys τ H, i < n → Pv i ys τ H → g (.int (lo + i)) τ H fun τ2 H2 => te τ2 H2 fun y H4 => H4 acc = some (.lst ys) ∧ Pv (i + 1) (ys ++ [y]) τ2 (upd H4 acc (.lst (ys ++ [y]))))
    (hd : ∀ ys τ H, Pv n ys τ H → Q (.ref acc) H) : LCW (Itr lo n) xs ix g tYes te σ H1 acc Q :=
  lc_range hn Pv h0 hacc (fun i ys τ H hi p => yes_in (R := fun τ2 _ => fun y H4 => H4 acc = some (.lst ys) ∧ Pv (i + 1) (ys ++ [y]) τ2 (upd H4 acc (.lst (ys ++ [y])))) (hs i ys τ H hi p)) hd
theorem lc_str0 {xs : List Str} {ix : List Nat} {g : TG} {te : TE} {z : Str} {σ : St} {H1 : Hp} {Q : VK} {acc : Addr} (hn : z.cps.size < sizeLine) (Pv : Nat → List V → St → Hp → Prop)
    (h0 : Pv 0 [] (stC xs ix σ) (upd H1 acc (.lst [])))
    (hacc : ∀ i ys τ H, Pv i ys τ H → H acc = some (.lst ys) ∧ ys.length ≤ i)
    (hs : ∀ i ys τ H, i < z.cps.size → Pv i ys τ H → g (.str ⟨#[z.cps.getD i 0]⟩) τ H fun τ2 H2 => te τ2 H2 fun y H4 => H4 acc = some (.lst ys) ∧ Pv (i + 1) (ys ++ [y]) τ2 (upd H4 acc (.lst (ys ++ [y]))))
    (hd : ∀ ys τ H, Pv z.cps.size ys τ H → Q (.ref acc) H) : LCW (Its z) xs ix g tYes te σ H1 acc Q :=
  lc_str hn Pv h0 hacc (fun i ys τ H hi p => yes_in (R := fun τ2 _ => fun y H4 => H4 acc = some (.lst ys) ∧ Pv (i + 1) (ys ++ [y]) τ2 (upd H4 acc (.lst (ys ++ [y])))) (hs i ys τ H hi p)) hd
theorem lc_list0 {K : PySem.W.Frag} {a : Addr} {its : List V} {xs : List Str} {ix : List Nat} {g : TG} {te : TE} {σ : St} {H1 : Hp} {Q : VK} {acc : Addr} (hn : its.length < sizeLine) (Pv : Nat → List V → St → Hp → Prop)
    (h0 : Pv 0 [] (stC xs ix σ) (upd H1 acc (.lst [])))
    (hacc : ∀ i ys τ H, Pv i ys τ H → H acc = some (.lst ys) ∧ ys.length ≤ i ∧ SqL K H a its)
    (hs : ∀ i ys τ H x, its[i]? = some x → Pv i ys τ H → g x τ H fun τ2 H2 => te τ2 H2 fun y H4 => H4 acc = some (.lst ys) ∧ Pv (i + 1) (ys ++ [y]) τ2 (upd H4 acc (.lst (ys ++ [y]))))
    (hd : ∀ ys τ H, Pv its.length ys τ H → Q (.ref acc) H) : LCW (Itl K a) xs ix g tYes te σ H1 acc Q :=
  lc_list hn Pv h0 hacc (fun i ys τ H x hi p => yes_in (R := fun τ2 _ => fun y H4 => H4 acc = some (.lst ys) ∧ Pv (i + 1) (ys ++ [y]) τ2 (upd H4 acc (.lst (ys ++ [y])))) (hs i ys τ H x hi p)) hd
end L2
namespace L2
open PySem PySem.Spec PyProof.Rows
section
variable {X : Cx}
noncomputable def rIxH : R2 := fun x y H Q => ∃ p xs i v, x = .ref p ∧ y = .int i ∧ H p = some (.lst xs) ∧ atI xs i = some v ∧ Q v H
theorem ix_lstH : IxR X rIxH := fun value slice pins s σ H x y v u Q I rx ry hz hs => by
  obtain ⟨p, xs, i, z, a, b, c, d, e⟩ := hz
  exact ix_list value slice pins s σ H x y v u Q I rx ry ⟨p, xs, i, z, a, b, .of c, d, e⟩ hs
noncomputable def rIxTH : R2 := fun x y H Q => ∃ p xs i v, x = .ref p ∧ y = .int i ∧ H p = some (.tup xs) ∧ atI xs i = some v ∧ Q v H
theorem ix_tupH : IxR X rIxTH := fun value slice pins s σ H x y v u Q I rx ry hz hs => by
  obtain ⟨p, xs, i, z, a, b, c, d, e⟩ := hz
  exact ix_tup value slice pins s σ H x y v u Q I rx ry ⟨p, xs, i, z, a, b, .of c, d, e⟩ hs
end
end L2
set_option Elab.async false
set_option linter.all false
set_option maxRecDepth 100000
set_option maxHeartbeats 4000000
namespace L2
open PySem PySem.Spec PyProof.Rows
noncomputable def CompS (N : List Str) (sc : Scope) (xs : List Str) (ix : List Nat) (scope : Scope) : Prop :=
  scope.kind = .function ∧ (∀ y ∈ scope.names, y.2 ≠ .cell) ∧ (∀ y ∈ scope.names, y.2 = .local → scope.names.lookup y.1 = some .local) ∧
  (∀ y ∈ scope.names, y.2 = .free → sc.names.lookup y.1 = some .cell ∨ sc.names.lookup y.1 = some .free) ∧ (∀ x ∈ xs, scope.names.lookup x = some .local) ∧
  (xs ++ ix.map (fun i => N.getD i "")).Nodup ∧ (∀ i ∈ ix, i < N.length) ∧ (∀ i ∈ ix, scope.names.lookup (N.getD i "") = some .free)
instance {N : List Str} {sc : Scope} {xs : List Str} {ix : List Nat} {scope : Scope} : Decidable (CompS N sc xs ix scope) := by unfold CompS; infer_instance
theorem CompS.at {X : Cx} {N : List Str} {sc : Scope} {xs : List Str} {ix : List Nat} {scope : Scope} (S : CompS N sc xs ix scope) (hN : X.N = N) (hsc : X.env.scope = sc) : CompScope X xs ix scope := by
  obtain ⟨a, b, c, d, e, f, g, h⟩ := S
  subst hN hsc
  exact ⟨a, b, c, fun n hn => d (n, .free) hn rfl, e, f, g, h⟩
theorem pe_lc1 {X : Cx} {N : List Str} {sc : Scope} {x : Str} {ix : List Nat} {scope : Scope} {elt iter : Expr} {ifs : List Expr} {px pos : Pos} {wi : TI} {tt : TT} {te : TE}
    (hS : CompS N sc [x] ix scope) (hi : PI X (.Name x px) iter wi)
    (ht : ∀ C fp s H, PTs (cxC X [x] ix scope C fp s H) ifs tt) (he : ∀ C fp s H, PE (cxC X [x] ix scope C fp s H) elt te)
    (hN : X.N = N := by rfl) (hsc : X.env.scope = sc := by rfl) (hc : X.calm = true := by rfl)
    (hs : ∀ x, foldedSetIterable iter X.env x = pure x := by intro _; rfl) :
    PE X (.ListComp elt [⟨.Name x px, iter, ifs, 0⟩] scope pos) (tLC [x] ix wi (gName 0) tt te) := by
  have S := hS.at (X := X) hN hsc
  have hl : ∀ C fp s H, (cxC X [x] ix scope C fp s H).env.scope.names.lookup x = some .local := fun _ _ _ _ => lookup_relabel_local (S.own x (by simp))
  exact pe_lc S hc hi (fun C fp s H => pg_name S.nd rfl (Or.inl (hl C fp s H)) (.inr (hl C fp s H))) ht he hs
theorem len_app (x y : Str) : (x ++ y).length = x.length + y.length := by
  show (x.cps ++ y.cps).size = _
  simp [Str.length]
end L2
namespace L2
open PySem PySem.Spec PyProof.Rows
theorem Keep.drop {S : List Addr} {H H' : Hp} {a : Addr} (k : Keep (a :: S) H H') (h : H a = Option.none) : Keep S H H' := fun b o n q => k b o (fun z => (List.mem_cons.mp z).elim (fun e => by rw [e, h] at q; cases q) n) q
theorem upd_none {H : Hp} {p a : Addr} {o : HO} (h : upd H p o a = Option.none) : H a = Option.none ∧ a ≠ p := by
  by_cases e : a = p
  · rw [e, upd_same] at h; cases h
  · rw [upd_ne e] at h; exact ⟨h, e⟩
theorem join_len (ys : List Str) : (Txt.join (Str.ofString "") ys).length = (ys.map (·.length)).sum := by
  show (Builtin.Str.glued (Str.ofString "") ys).length = _
  rw [size_glued]
  show _ + (ys.length - 1) * 0 = _
  omega
theorem sum_ones : ∀ (ys : List Str), (∀ z ∈ ys, z.length = 1) → (ys.map (·.length)).sum = ys.length
  | [], _ => rfl
  | y :: ys, h => by
    rw [List.map_cons, List.sum_cons, h y List.mem_cons_self, sum_ones ys fun z hz => h z (List.mem_cons_of_mem _ hz), List.length_cons]
    omega
end L2
namespace L2
theorem atI_in {α : Type} {xs : List α} {i : Int} (h0 : 0 ≤ i) (h1 : i < xs.length) : ∃ v, atI xs i = some v ∧ xs[i.toNat]? = some v := by
  have hl : i.toNat < xs.length := by omega
  refine ⟨xs[i.toNat], ?_, List.getElem?_eq_getElem hl⟩
  have e := atI_nat (List.getElem?_eq_getElem hl)
  rwa [Int.toNat_of_nonneg h0] at e
end L2
namespace L2
open PySem PySem.Spec PyProof.Rows
structure Glo (mg : Str → Option Value) (x : Str) (v : V) : Prop where
  ex : ∃ u, mg x = some u ∧ RelV v u
theorem pe_glo {X : Cx} {x : Str} {v : V} {pos : Pos} (g : Glo X.mg x v) (hg : Gl X x := by rfl) (hd : (x == ("__debug__" : Str)) = false := by decide) : PE X (.Name x pos) (tC v) :=
  let ⟨_, hm, r⟩ := g.ex
  pe_glob hg hm r hd
inductive PlainT (K : PySem.W.Frag) (H : Hp) : V → String → Prop where
  | non : PlainT K H .non "NoneType"
  | bl (x : Bool) : PlainT K H (.bl x) "bool"
  | int (i : Int) : PlainT K H (.int i) "int"
  | str (x : Str) : PlainT K H (.str x) "str"
  | lst {a : Addr} {xs : List V} (e : H a = some (.lst xs)) : PlainT K H (.ref a) "list"
  | tup {a : Addr} {xs : List V} (e : H a = some (.tup xs)) : PlainT K H (.ref a) "tuple"
  | dK {a : Addr} {kvs : List (Key × V)} (e : H a = some (.dK kvs)) : PlainT K H (.ref a) "dict"
theorem PlainT.ty {K : PySem.W.Frag} {H : Hp} {x : V} {T : String} (h : PlainT K H x T) : TyOf K H x (.type T) := by
  cases h with
  | non => exact .non
  | bl b => exact .bl b
  | int i => exact .int i
  | str z => exact .str z
  | lst e => exact .lst e
  | tup e => exact .tup e
  | dK e => exact .dK e
theorem PlainT.kit {K : PySem.W.Frag} {H : Hp} {x : V} {T : String} (h : PlainT K H x T) : PySem.W.kitOne K (.type T) (.type "str") = some (T == "str") ∧ PySem.W.kitOne K (.type T) (.type "int") = some (T == "int" || T == "bool") ∧
    PySem.W.kitOne K (.type T) (.type "bool") = some (T == "bool") ∧ PySem.W.kitOne K (.type T) (.type "list") = some (T == "list") ∧ PySem.W.kitOne K (.type T) (.type "tuple") = some (T == "tuple") := by
  cases h <;> exact ⟨rfl, rfl, rfl, rfl, rfl⟩
noncomputable abbrev abc : Str := "abcdefghijklmnopqrstuvwxyz"
noncomputable def letterB (c : Nat) : Bool := !(Builtin.Str.occurrences abc ⟨#[c]⟩ 0 abc.length 1).isEmpty
noncomputable def nameS (z : Str) : Bool := decide (1 ≤ z.length) && decide (z.length ≤ 8) && z.cps.toList.all letterB
noncomputable def nameV : V → Bool
  | .str z => nameS z
  | _ => false
theorem all_map_id {α : Type} (l : List α) (f : α → Bool) : (l.map f).all id = l.all f := by rw [List.all_map]; rfl
end L2
namespace L2
open PySem
theorem bo_isinstance : bootBuiltins "isinstance" = some (.builtin "isinstance") := by decide +kernel
theorem bo_len : bootBuiltins "len" = some (.builtin "len") := by decide +kernel
theorem bo_all : bootBuiltins "all" = some (.builtin "all") := by decide +kernel
theorem bo_sorted : bootBuiltins "sorted" = some (.builtin "sorted") := by decide +kernel
theorem bo_min : bootBuiltins "min" = some (.builtin "min") := by decide +kernel
theorem bo_max : bootBuiltins "max" = some (.builtin "max") := by decide +kernel
theorem bo_str : bootBuiltins "str" = some (.type "str") := by decide +kernel
theorem bo_list : bootBuiltins "list" = some (.type "list") := by decide +kernel
theorem bo_tuple : bootBuiltins "tuple" = some (.type "tuple") := by decide +kernel
theorem bo_set : bootBuiltins "set" = some (.type "set") := by decide +kernel
end L2
namespace L2
theorem ifF {c : Bool} {A B : Prop} (h : c = false) (k : B) : if c = true then A else B := by rw [h]; exact iteF k
theorem ifT {c : Bool} {A B : Prop} (h : c = true) (k : A) : if c = true then A else B := by rw [h]; exact iteT k
end L2
set_option Elab.async false
set_option linter.all false
set_option maxRecDepth 100000
set_option maxHeartbeats 4000000
namespace L2
open PySem PySem.Spec PyProof.Rows
theorem eqV_refl {x : V} (f : flatV x = true) : eqV x x = true := by
  cases x with
  | non => rfl
  | bl b => cases b <;> rfl
  | int i => show (i == i) = true; simp
  | str z => show (z == z) = true; simp
  | _ => exact absurd (show false = true from f) Bool.false_ne_true
section
variable {X : Cx}
noncomputable def Rows (H : Hp) (p : Addr) (rows : List (List V)) : Prop := ∃ ps : List Addr, H p = some (.lst (ps.map V.ref)) ∧ Paired (fun q r => H q = some (.tup r)) ps rows
theorem paired_get {α β : Type} {F : α → β → Prop} {xs : List α} {ys : List β} (h : Paired F xs ys) : ∀ (i : Nat) (x : α), xs[i]? = some x → ∃ y, ys[i]? = some y ∧ F x y := by
  induction h with
  | nil => intro i x h; simp at h
  | cons r _ ih =>
    intro i x h
    cases i with
    | zero => simp at h; subst h; exact ⟨_, rfl, r⟩
    | succ i =>
      obtain ⟨y, h1, h2⟩ := ih i x (by simpa using h)
      exact ⟨y, by simpa using h1, h2⟩
theorem paired_snoc {α β : Type} {F : α → β → Prop} {a : α} {b : β} {xs : List α} {ys : List β} (h : Paired F xs ys) (r : F a b) : Paired F (xs ++ [a]) (ys ++ [b]) := by
  induction h with
  | nil => exact .cons r .nil
  | cons q _ ih => exact .cons q ih
theorem paired_len {α β : Type} {F : α → β → Prop} {xs : List α} {ys : List β} (h : Paired F xs ys) : xs.length = ys.length := by
  induction h with
  | nil => rfl
  | cons _ _ ih => exact congrArg Nat.succ ih
theorem Rows.keep {H H' : Hp} {p : Addr} {rows : List (List V)} (h : Rows H p rows) (k : Keep [] H H') : Rows H' p rows := by
  obtain ⟨ps, e, r⟩ := h
  exact ⟨ps, k _ _ (by simp) e, L2.Paired.mapP r fun q x z => k _ _ (by simp) z⟩
open MeetsSeq in
open AutoSeq1 (wpAny_loadPart') in
open MeetsSeq in
open AutoSeq1 (wpAny_loadPart') in
noncomputable def rNeE (neg : Bool) : R2 := fun x y H Q => ∃ a b xs, x = .ref a ∧ y = .ref b ∧ H a = some (.lst xs) ∧ H b = some (.lst []) ∧ a ≠ b ∧ Q (.bl (if neg then !xs.isEmpty else xs.isEmpty)) H
end
structure MthG (K : PySem.W.Frag) (C : Addr) (m qual : Str) (st : Stmt) (ps : List Str) : Prop where
  ex : ∃ (f : Addr) (fd : FuncData), Fun K m qual st f fd ∧ Meth K C m f ∧ Binds K fd ps []
structure MCal (P : Program) (w : World) (K : PySem.W.Frag) (mg : Str → Option Value) (base : Heap) (CX : CXT) (k : Nat) (C : Addr) (m : Str) (ps : List Str) (sp : Sp) : Prop where
  ex : ∃ (f : Addr) (fd : FuncData), FnOk P w K mg base CX k f fd ps sp ∧ Meth K C m f ∧ Binds K fd ps []
section
variable {P : Program} {w : World} {K : PySem.W.Frag} {mg : Str → Option Value} {base : Heap}
theorem MthG.ok {C : Addr} {m qual : Str} {st : Stmt} {N ps : List Str} {k : Nat} {sp : Sp} (G : MthG K C m qual st ps) (S : FnScope N ps (defScope st)) (len : ∀ vs H Q E, sp vs H Q E → vs.length = ps.length)
    (hbody : ∀ (f : Addr) (cdv : Value) (A : Around) (outer : List Env) (s : Shared) (H : Hp) (vs : List V) (Q : VK) (E : XK), Room k (A.deeper (envOfC qual (defScope st) s.heap.objs.size f cdv)) → sp vs H Q E →
      ∃ t, PSs (cxOf CX0 P w K mg base N qual (defScope st) f cdv A outer s H E).nox (defBody st) t ∧ t { nx := fun _ H' => Q .non H', rt := Q } (start N vs) H) : MCal P w K mg base CX0 (k + 1) C m ps sp := by
  obtain ⟨f, fd, F, hm, hb⟩ := G.ex
  exact ⟨f, fd, F.ok S len fun cdv A outer s H vs Q E hr h => hbody f cdv A outer s H vs Q E hr h, hm, hb⟩
theorem mthG_mk {C : Addr} {x qual : Str} {st : Stmt} {f : Addr} {oc : Value} {od an : Option Addr} {osl : Array (Option Value)} {kV doc pm cdv ct : Value} {ps : List Str}
    (a : PySem.W.findIn K (.ref C) x = some (some (.ref f))) (i : PySem.W.isFn K (.ref f) = true)
    (l : K.lookup f = some ⟨oc, od, .func (PySem.W.fnOf x qual (defArgs st) (defBody st) (defScope st) .none kV doc pm an cdv ct), osl⟩) (c : PySem.W.codeIn K cdv qual = true) (k : PySem.W.keepIn K (.ref f) = true)
    (hb : ∀ (kV doc pm : Value) (an : Option Addr) (cdv ct : Value) (us : List Value), us.length = ps.length → bindArgs (PySem.W.fnOf x qual (defArgs st) (defBody st) (defScope st) .none kV doc pm an cdv ct) ⟨us, []⟩ = pure (ps.zip us)) : MthG K C x qual st ps :=
  ⟨f, _, fun_mk l c k, ⟨a, i, k⟩, (fun_mk l c k).binds hb⟩
end
section
variable {X : Cx} {k : Nat} {C : Addr} {ps : List Str} {sp : Sp} {m : Str} {apos pos : Pos} {o e : Expr} {es : List Expr} {ta : TE} {t : TA}
theorem pe_mth0 {pl : Sem Bool} (M : MCal X.prog X.w X.K X.mg X.base CX0 k C m ps sp) (c : Cls X.K C) (hr : Room k X.A) (ho : PE X o ta)
    (ht : eval (.Call (.Attribute o m apos) [] [] pos) X.env = (do
      let ov ← eval o X.env
      standAt apos.atName
      let (f, first) ← holding [ov] (getMethod ov m pl)
      callWith pos f first (backTo pos (starEach [] X.env)) (backToKw pos (keywordEach [] X.env))) := by rfl) :
    PE X (.Call (.Attribute o m apos) [] [] pos) (tMeth C m sp [] E0 ta tNil) :=
  let ⟨_, _, F, hm, hb⟩ := M.ex
  pe_meth0 ho c hm F hr hb .nil pass0 ht
end
end L2
set_option Elab.async false
set_option linter.all false
set_option maxRecDepth 100000
set_option maxHeartbeats 4000000
namespace L2
open PySem PySem.Spec PyProof.Rows
section
variable {X : Cx}
theorem op_neE (hu : X.A.units < cLine) : OpR X (compareOp .NotEq) (rNeE true) := by
  intro pins s σ H x y v u Q I rx ry h
  obtain ⟨a, b, xs, rfl, rfl, ha, hb, hne, q⟩ := h
  cases rx; cases ry
  obtain ⟨i1, r1, p1, _⟩ := I.list (.of ha)
  obtain ⟨i2, r2, p2, _⟩ := I.list (.of hb)
  cases r2
  cases xs with
  | nil =>
    cases r1
    exact SeqAt.RcNeAt.lists (e := fun _ => true) p1.isList p2.isList rfl hu (fun j h1 => by simp at h1) _ _ _ _ ⟨.bl _, H, I, rfl, q⟩
  | cons x xs =>
    have l1 := r1.length
    refine SeqAt.RcNeAt.lists_lengths p1.isList p2.isList ?_ hu _ _ _ _ ⟨.bl true, H, I, rfl, q⟩
    rw [List.size_toArray, List.size_toArray, ← l1]
    rfl
end
structure MkCal (P : Program) (w : World) (K : PySem.W.Frag) (mg : Str → Option Value) (base : Heap) (CX : CXT) (k : Nat) (C : Addr) (x : Str) (ps : List Str) (sp : Sp) : Prop where
  ex : ∃ (f : Addr) (fd : FuncData), FnOk P w K mg base CX k f fd ps sp ∧ Mk K C f ∧ mg x = some (.ref C) ∧ Binds K fd ps []
section
variable {X : Cx} {k : Nat} {C : Addr} {ps : List Str} {sp : Sp} {x : Str} {p pos : Pos} {e : Expr} {es : List Expr} {t : TA}
theorem pe_mk (M : MkCal X.prog X.w X.K X.mg X.base CX0 k C x ps sp) (hr : Room (k + 1) X.A) (ha : PA X (e :: es) t) (hg : Gl X x := by rfl)
    (hdb : (x == ("__debug__" : Str)) = false := by decide) (he : starEach (e :: es) X.env = (false, eval e X.env) :: starEach es X.env := by rfl) (hpl : (backTo pos (starEach es X.env)).any (·.1) = false := by rfl) :
    PE X (.Call (.Name x p) (e :: es) [] pos) (tMake C sp [] E0 t) :=
  let ⟨_, _, F, M', hm, hb⟩ := M.ex
  pe_make M' F hr hg hm hb .nil pass0 ha hdb he hpl
end
end L2
set_option Elab.async false
set_option linter.all false
set_option maxRecDepth 100000
set_option maxHeartbeats 4000000
namespace L2
open PySem PySem.Spec PyProof.Rows
section
variable {prog : Program} {w : World} {A : Around} {E : Value → Shared → Prop} {s : Shared}
theorem draw_listL {it t : Addr} {items : Array Value} (hne : t ≠ it) : ∀ (n i : Nat) (s : Shared) (Q : List Value → Shared → Prop), s.heap.IsListIter it t i → s.heap.IsList t items → i + n ≤ items.size →
    (∀ h', h'.IsListIter it t (i + n) → Heap.SameBut it s.heap h' → Q ((items.toList.drop i).take n) { s with heap := h' }) → wpAny (model prog w) A (draw (.ref it) n) Q E s
  | 0, i, s, Q, hit, _, _, hQ => by
    show wpAny _ _ (pure []) Q E s
    exact wpAny_pure (by simpa using hQ s.heap hit (Heap.SameBut.refl ..))
  | n + 1, i, s, Q, hit, ht, hle, hQ => by
    have hlt : i < items.size := by omega
    show wpAny _ _ (pyNext (.ref it) >>= _) Q E s
    refine wpAny_bind (wpAny_pyNext_list_item hit ht (x := items[i]) (by simp [hlt]) fun h1 hit1 hs1 => ?_)
    refine wpAny_bind (wpAny_holding (draw_listL hne n (i + 1) _ _ hit1 (ht.extBut hs1.extBut hne) (by omega) fun h2 hit2 hs2 => wpAny_pure ?_))
    have hd : items.toList.drop i = items[i] :: items.toList.drop (i + 1) := by simp [List.drop_eq_getElem_cons, hlt]
    have := hQ h2 (by rw [show i + (n + 1) = i + 1 + n by omega]; exact hit2) (hs1.trans hs2)
    rw [hd, List.take_succ_cons] at this
    exact this
end
section
variable {X : Cx} {pos : Pos}
end
theorem lc_rows {K : PySem.W.Frag} {α : Type} {a acc : Addr} {xs : List Str} {ix : List Nat} {g : TG} {tt : TT} {te : TE} {σ : St} {H1 : Hp} {Q : VK} {ds : List α} (f mk : α → List V) (b : α → Bool) (own : α → Addr → List (Option V)) (rest : List (Option V)) (hn : ds.length ≤ 2000) (ha : H1 acc = none) (hS : Rows H1 a (ds.map f))
    (hσ : ∃ vs : List (Option V), stC xs ix σ = vs ++ rest ∧ vs.length = xs.length) (hown : ∀ d q, (own d q).length = xs.length)
    (hg : ∀ (d : α) (q : Addr) (vs : List (Option V)) (H : Hp) (R : St → Hp → Prop), d ∈ ds → vs.length = xs.length → H q = some (.tup (f d)) → R (own d q ++ rest) H → g (.ref q) (vs ++ rest) H R)
    (htt : ∀ (d : α) (q : Addr) (H : Hp) (R : Bool → Hp → Prop), d ∈ ds → Keep [acc] H1 H → H q = some (.tup (f d)) → (∀ H', Keep [] H H' → R (b d) H') → tt (own d q ++ rest) H R)
    (hte : ∀ (d : α) (q : Addr) (H : Hp) (R : VK), d ∈ ds → H q = some (.tup (f d)) → (∀ t H', Keep [] H H' → H' t = some (.tup (mk d)) → R (.ref t) H') → te (own d q ++ rest) H R)
    (q : ∀ H', Rows H' acc ((ds.filter b).map mk) → Keep [] H1 H' → Q (.ref acc) H') : LCW (Itl K a) xs ix g tt te σ H1 acc Q := by
  obtain ⟨ps0, e0, r0⟩ := hS
  have aa : a ≠ acc := ne_of_none e0 ha
  have l0 := paired_len r0
  rw [List.length_map] at l0
  obtain ⟨vs0, hσ, hv0⟩ := hσ
  refine lc_list (K := K) (a := a) (its := ps0.map V.ref) (by rw [List.length_map, sizeLine_eq]; omega)
    (fun i ys τ H2 => ∃ (ps : List Addr) (vs : List (Option V)), τ = vs ++ rest ∧ vs.length = xs.length ∧ ys = ps.map V.ref ∧ Paired (fun q r => H2 q = some (.tup r)) ps (((ds.take i).filter b).map mk) ∧ Keep [acc] H1 H2 ∧ H2 acc = some (.lst ys)) ?_ ?_ ?_ ?_
  · exact ⟨[], vs0, hσ, hv0, rfl, .nil, Keep.at (by simp), upd_same⟩
  · rintro i ys τ H2 ⟨ps, vs, rfl, hv, rfl, hp, kp, h2⟩
    refine ⟨h2, ?_, .of (kp _ _ (by simp [aa]) e0)⟩
    have := paired_len hp
    rw [List.length_map] at this
    have h3 := List.length_filter_le b (ds.take i)
    rw [List.length_map, this]
    rw [List.length_take] at h3
    omega
  · rintro i ys τ H2 x hx ⟨ps, vs, rfl, hv, rfl, hp, kp, h2⟩
    rw [List.getElem?_map] at hx
    cases ez : ps0[i]? with
    | none => rw [ez] at hx; cases hx
    | some qa =>
    rw [ez] at hx
    have ey : V.ref qa = x := Option.some.inj hx
    subst ey
    obtain ⟨r, er, hr⟩ := paired_get r0 i qa ez
    rw [List.getElem?_map] at er
    cases ed : ds[i]? with
    | none => rw [ed] at er; cases er
    | some d =>
    rw [ed] at er
    have er' : f d = r := Option.some.inj er
    subst er'
    have nqa : qa ≠ acc := ne_of_none hr ha
    have hq2 := kp _ _ (by simp [nqa]) hr
    have hm := List.mem_of_getElem? ed
    have eT : ds.take (i + 1) = ds.take i ++ [d] := by rw [List.take_succ, ed]; rfl
    refine hg d qa vs H2 _ hm hv hq2 (htt d qa H2 _ hm kp hq2 fun H4 k4 => ?_)
    cases hb : b d with
    | false =>
      rw [if_neg Bool.false_ne_true]
      refine ⟨ps, own d qa, rfl, hown d qa, rfl, ?_, kp.trans (k4.mono (by simp)), k4 _ _ (by simp) h2⟩
      rw [eT, List.filter_append, List.filter_cons, hb]
      simpa using L2.Paired.mapP hp fun q r e => k4 _ _ (by simp) e
    | true =>
      rw [if_pos rfl]
      refine hte d qa H4 _ hm (k4 _ _ (by simp) hq2) fun t H5 k45 h5t => ?_
      have k5 := k4.trans k45
      have h5 := k5 _ _ (by simp) h2
      have nt : acc ≠ t := by intro z; rw [← z, h5] at h5t; cases h5t
      refine ⟨h5, ps ++ [t], own d qa, rfl, hown d qa, by simp, ?_, (kp.trans (k5.mono (by simp))).trans (Keep.at (by simp)), upd_same⟩
      rw [eT, List.filter_append, List.filter_cons, hb]
      simp only [if_true, List.filter_nil, List.map_append, List.map_cons, List.map_nil]
      refine paired_snoc ?_ (by rw [upd_ne (Ne.symm nt)]; exact h5t)
      exact L2.Paired.mapP hp fun q r e => by
        have e5 := k5 _ _ (by simp) e
        have nq : q ≠ acc := ne_of e5 h5 (by intro z; cases z)
        rw [upd_ne nq]; exact e5
  · rintro ys τ H2 ⟨ps, vs, rfl, hv, rfl, hp, kp, h2⟩
    rw [List.length_map, l0, List.take_length] at hp
    exact q H2 ⟨ps, h2, hp⟩ (kp.drop ha)
theorem pe_lc2 {X : Cx} {N : List Str} {sc : Scope} {x y : Str} {ix : List Nat} {scope : Scope} {elt iter : Expr} {ifs : List Expr} {px py tp pos : Pos} {tk : Nat} {wi : TI} {tt : TT} {te : TE}
    (hS : CompS N sc [x, y] ix scope) (hi : PI X (.Tuple [.Name x px, .Name y py] tk tp) iter wi)
    (ht : ∀ C fp s H, PTs (cxC X [x, y] ix scope C fp s H) ifs tt) (he : ∀ C fp s H, PE (cxC X [x, y] ix scope C fp s H) elt te)
    (hN : X.N = N := by rfl) (hsc : X.env.scope = sc := by rfl) (hc : X.calm = true := by rfl)
    (hs : ∀ x, foldedSetIterable iter X.env x = pure x := by intro _; rfl) :
    PE X (.ListComp elt [⟨.Tuple [.Name x px, .Name y py] tk tp, iter, ifs, 0⟩] scope pos) (tLC [x, y] ix wi (gTup X.K 2 (gCons (gName 0) (gCons (gName 1) gNil))) tt te) := by
  have S := hS.at (X := X) hN hsc
  have hl : ∀ C fp s H, (cxC X [x, y] ix scope C fp s H).env.scope.names.lookup x = some .local := fun _ _ _ _ => lookup_relabel_local (S.own x (by simp))
  have hl2 : ∀ C fp s H, (cxC X [x, y] ix scope C fp s H).env.scope.names.lookup y = some .local := fun _ _ _ _ => lookup_relabel_local (S.own y (by simp))
  exact pe_lc S hc hi (fun C fp s H => pg_tup (X := cxC X [x, y] ix scope C fp s H) hc (pgs_cons (pg_name S.nd rfl (Or.inl (hl C fp s H)) (.inr (hl C fp s H))) (pgs_cons (pg_name S.nd rfl (Or.inl (hl2 C fp s H)) (.inr (hl2 C fp s H))) pgs_nil))) ht he hs
theorem Keep.under {S : List Addr} {H0 H1 H2 : Hp} (k0 : Keep [] H0 H1) (k : Keep S H1 H2) (hS : ∀ b ∈ S, H0 b = Option.none) : Keep [] H0 H2 := fun b o _ h => k b o (fun hb => by rw [hS b hb] at h; cases h) (k0 b o (by simp) h)
theorem paired_app {α β : Type} {F : α → β → Prop} : ∀ {a c : List α} {b d : List β}, Paired F a b → Paired F c d → Paired F (a ++ c) (b ++ d)
  | _, _, _, _, .nil, h => h
  | _, _, _, _, .cons r t, h => .cons r (paired_app t h)
theorem cut_ints (ns : List Int) (lo hi : Option Int) : ∃ ms : List Int, cutV (ns.map V.int) lo hi = ms.map V.int ∧ ms.length ≤ ns.length := by
  unfold cutV
  refine ⟨(ns.drop (HT.sIx (ns.map V.int).length 0 lo)).take (HT.sIx (ns.map V.int).length (ns.map V.int).length hi - HT.sIx (ns.map V.int).length 0 lo), by rw [List.map_take, List.map_drop], ?_⟩
  rw [List.length_take, List.length_drop]
  omega
end L2
set_option Elab.async false
set_option linter.all false
set_option maxRecDepth 100000
set_option maxHeartbeats 4000000
namespace L2
open PySem PySem.Spec PyProof.Rows
section
variable {X : Cx} {es es1 : List Expr} {t t1 : TA}
theorem swL {es : List Expr} {p : Pos} {t : Option Expr} {n : Nat} {env : Env} : swapsWith (.List es p) t n env = pure false := rfl
inductive CV : Expr → V → Prop
  | str {z : Str} {j p} : CV (.Constant (.str z) j p) (.str z)
  | int {z : Int} {j p} : CV (.Constant (.int z) j p) (.int z)
  | bl {z : Bool} {j p} : CV (.Constant (.bool z) j p) (.bl z)
  | non {j p} : CV (.Constant .none j p) .non
inductive CVs : List Expr → List V → Prop
  | nil : CVs [] []
  | cons {e : Expr} {v : V} {es : List Expr} {vs : List V} (h : CV e v) (t : CVs es vs) : CVs (e :: es) (v :: vs)
noncomputable def tRun (vs : List V) (t : TA) : TA := fun σ H Q => t σ H (fun xs H1 => Q (vs ++ xs) H1)
theorem pa_run0 (h : PA X es t) {cs : List Expr} {vs : List V} (h0 : CVs cs vs) : PA X (cs ++ es) (tRun vs t) := by
  induction h0 with
  | nil => exact h
  | cons c _ ih =>
    cases c with
    | str => exact pa_cons pe_str ih
    | int => exact pa_cons pe_int ih
    | bl => exact pa_cons pe_bl ih
    | non => exact pa_cons pe_non ih
theorem ps_setL {i : Nat} {x : Str} {pos pos' lp : Pos} (hN : X.N.Nodup) (hi : X.N[i]? = some x) (hx : Loc X.env.scope x) (hf : X.fn x = true ∨ X.env.scope.names.lookup x = some .local) (h : PA X es t) :
    PS X (.Assign [.Name x pos'] (.List es lp) pos) (tAsg (tLst t) (gName i)) := ps_set hN hi hx (pe_lst h) swL hf
noncomputable def tAll (vs : List V) : TA := fun _ H Q => Q vs H
theorem pa_all {vs : List V} (h : CVs es vs) : PA X es (tAll vs) := by
  have z := pa_run0 (X := X) pa_nil h
  have e : tRun vs tNil = tAll vs := by
    funext σ H Q
    show Q (vs ++ []) H = Q vs H
    rw [List.append_nil]
  rwa [List.append_nil, e] at z
end
end L2
set_option Elab.async false
set_option linter.all false
set_option maxRecDepth 100000
set_option maxHeartbeats 4000000
namespace L2
open PySem PySem.Spec PyProof.Rows
section
variable {X : Cx}
end
end L2
set_option Elab.async false
set_option linter.all false
set_option maxRecDepth 100000
set_option maxHeartbeats 4000000
namespace L2
open PySem PySem.Spec PyProof.Rows PySem.Builtin.Str
end L2
set_option Elab.async false
set_option linter.all false
set_option maxRecDepth 100000
set_option maxHeartbeats 4000000
namespace PySem.SeqAt
open AutoSeq1 (wpAny_loadPart')
open MeetsSeq
end PySem.SeqAt
namespace L2
open PySem PySem.Spec PyProof.Rows
section
variable {X : Cx}
end
end L2
namespace HT
open PySem PySem.Spec PyProof.Rows L2
section
variable {prog : Program} {w : World} {A : Around} {E : Value → Shared → Prop} {s : Shared}
end
end HT
namespace L2
open PySem PySem.Spec PyProof.Rows
end L2
set_option Elab.async false
set_option linter.all false
set_option maxRecDepth 100000
set_option maxHeartbeats 4000000
namespace L2
open PySem PySem.Spec PyProof.Rows
section
variable {X : Cx} {e : Expr} {te : TE} {pos p1 p2 p3 : Pos} {j1 : Nat}
noncomputable def tBack (K : PySem.W.Frag) (te : TE) : TE := fun σ H Q => te σ H fun x H1 => ∃ a xs, x = .ref a ∧ SqL K H1 a xs ∧ ∀ p, H1 p = none → Q (.ref p) (upd H1 p (.lst xs.reverse))
theorem rev_of {xs : List V} {us : List Value} (r : Vals xs us) : Vals xs.reverse us.reverse := by
  induction r with
  | nil => exact .nil
  | cons r _ ih => rw [List.reverse_cons, List.reverse_cons]; exact ih.append (.cons r .nil)
theorem pe_m1 : PE X (.UnaryOp .USub (.Constant (.int 1) j1 p1) p3) (fun _ H Q => Q (.int (-1)) H) := by
  intro pins s σ H Q I h
  exact (pe_un un_neg pe_int) pins s σ H Q I ⟨1, rfl, h⟩
theorem pe_back (he : PE X e te) : PE X (.Subscript e (.Slice none none (some (.UnaryOp .USub (.Constant (.int 1) j1 p1) p3)) p2) pos) (tBack X.K te) := by
  intro pins s σ H Q I h
  refine Subscript_ (thn (he pins s σ H _ I h) fun v s1 hz54 => ?_)
  obtain ⟨x, H1, I1, r1, q1⟩ := hz54
  refine wpAny_Slice ?_
  rw [evalPart_none]
  refine wpAny_pure (wpAny_pure ?_)
  refine thn ((po_some (pe_m1 (X := X) (j1 := j1) (p1 := p1) (p3 := p3))) pins s1 σ H1 (fun o H2 => o = some (-1) ∧ H2 = H1) I1 ⟨-1, rfl, rfl, rfl⟩) fun vs s3 hz55 => ?_
  obtain ⟨o, H3, I3, ps, e1, e2⟩ := hz55
  subst e1 e2
  obtain ⟨a, xs, rfl, hx, q⟩ := q1
  cases r1
  have I4 : Inv X pins σ H3 { s3 with heap := s3.heap.push { cls := .type "slice", data := .fields #[.none, .none, vs] } } := I3.kept (t' := s3.toks) fun b ob q => Heap.get?_push_of_some _ q
  obtain ⟨its, r, ht, hz⟩ := I4.list hx
  have hlen := r.length
  show wpAny (model X.prog X.w) X.A (subscriptTail e (.Slice none none (some (.UnaryOp .USub (.Constant (.int 1) j1 p1) p3)) p2) (.ref a) (.ref s3.heap.objs.size)) (EP X pins σ Q) X.xe { s3 with heap := s3.heap.push { cls := .type "slice", data := .fields #[.none, .none, vs] } }
  refine tail_any (ops := [.ref a, .ref s3.heap.objs.size]) ht.isList.typeIs slot_list_getitem.lookup ?_ (by with_unfolding_all rfl)
  refine wpAny_getItem_list_slice ht.isList (Heap.IsSliceOf.new ..) .none .none ps (by simp) ?_ (by rw [List.size_toArray] <;> omega)
  rw [PySem.W.krv_pick]
  have I5 := I4.laid (t' := s3.toks) (o := .lst xs.reverse) (fun b ob q => Heap.get?_push_of_some { cls := .type "list", data := .seq its.reverse.toArray } q) (Nat.le_refl _) ?_
  · exact ⟨.ref _, _, I5, rfl, q _ (I4.hok.fresh (Nat.le_refl _))⟩
  · exact ⟨by rw [List.length_reverse]; exact hz, _, 0, rev_of r, Heap.get?_push_size _ rfl⟩
end
end L2
set_option Elab.async false
set_option linter.all false
set_option maxRecDepth 100000
set_option maxHeartbeats 4000000
namespace L2
open PySem PySem.Spec PyProof.Rows PySem.W
noncomputable def evK {α : Type} (lt : Nat → Nat → Bool) : KasT α → α
  | .ret a => a
  | .ask i j k => evK lt (k (lt i j))
theorem evK_bind {α β : Type} (lt : Nat → Nat → Bool) (f : α → KasT β) (t : KasT α) : evK lt (t.bind f) = evK lt (f (evK lt t)) := by
  induction t with
  | ret a => rfl
  | ask i j k ih => exact ih (lt i j)
structure LtO (lt : Nat → Nat → Bool) : Prop where
  asym : ∀ i j, lt i j = true → lt j i = false
  trn : ∀ i j k, lt j i = false → lt k j = false → lt k i = false
section
variable {lt : Nat → Nat → Bool}
noncomputable abbrev gA (p : Array Nat) (i : Nat) : Nat := p.getD i 0
noncomputable def leK (lt : Nat → Nat → Bool) (i j : Nat) : Prop := lt j i = false
noncomputable def Up (lt : Nat → Nat → Bool) (p : Array Nat) (k : Nat) : Prop := ∀ i j, i ≤ j → j < k → leK lt (gA p i) (gA p j)
noncomputable def Dn (lt : Nat → Nat → Bool) (p : Array Nat) (k : Nat) : Prop := ∀ i j, i ≤ j → j < k → leK lt (gA p j) (gA p i)
theorem leK_refl (O : LtO lt) (i : Nat) : leK lt i i := by
  unfold leK
  cases e : lt i i with
  | false => rfl
  | true => exact absurd (O.asym i i e) (by rw [e]; simp)
theorem leK_trans (O : LtO lt) {i j k : Nat} (a : leK lt i j) (b : leK lt j k) : leK lt i k := O.trn i j k a b
theorem leK_of (O : LtO lt) {i j : Nat} (h : lt i j = true) : leK lt i j := O.asym i j h
theorem gA_rev {p : Array Nat} {i j : Nat} (hj : j ≤ p.size) (k : Nat) : gA (kas_rev p i j) k = if i ≤ k ∧ k < j then gA p (i + j - 1 - k) else gA p k := by
  unfold gA kas_rev
  rw [Array.getD_eq_getD_getElem?, Array.getD_eq_getD_getElem?, Array.getD_eq_getD_getElem?, getElem?_mirror_all hj]
  split <;> rfl
theorem gA_bub {p : Array Nat} {k l : Nat} (hk : k < p.size) (hl : l ≤ k) (x : Nat) : gA (bubble p k (k - l)) x = if x = l then gA p k else if l < x ∧ x ≤ k then gA p (x - 1) else gA p x := by
  unfold gA
  rw [Array.getD_eq_getD_getElem?, Array.getD_eq_getD_getElem?, Array.getD_eq_getD_getElem?, Array.getD_eq_getD_getElem?, getElem?_bubble hk (k - l) (by omega)]
  rw [show k - (k - l) = l by omega]
  repeat' split
  all_goals first | rfl | omega
theorem rev_size (p : Array Nat) (i j : Nat) : (kas_rev p i j).size = p.size := mirror_size _ _ _ _
theorem rev_perm (p : Array Nat) (i j : Nat) : (kas_rev p i j).Perm p := mirror_perm _ _ _ _
theorem up_one (O : LtO lt) (p : Array Nat) : Up lt p 1 := fun i j h1 h2 => by
  have : i = j := by omega
  rw [this]; exact leK_refl O _
theorem Up.more (O : LtO lt) {p : Array Nat} {n : Nat} (h : Up lt p n) (h1 : 1 ≤ n) (e : leK lt (gA p (n - 1)) (gA p n)) : Up lt p (n + 1) := fun i j hij hj => by
  by_cases hn : j < n
  · exact h i j hij hn
  · have ej : j = n := by omega
    subst ej
    by_cases hi : i < j
    · exact leK_trans O (h i (j - 1) (by omega) (by omega)) e
    · have : i = j := by omega
      rw [this]; exact leK_refl O _
theorem Dn.more (O : LtO lt) {p : Array Nat} {n : Nat} (h : Dn lt p n) (h1 : 1 ≤ n) (e : leK lt (gA p n) (gA p (n - 1))) : Dn lt p (n + 1) := fun i j hij hj => by
  by_cases hn : j < n
  · exact h i j hij hn
  · have ej : j = n := by omega
    subst ej
    by_cases hi : i < j
    · exact leK_trans O e (h i (j - 1) (by omega) (by omega))
    · have : i = j := by omega
      rw [this]; exact leK_refl O _
theorem asc_ev (O : LtO lt) (p : Array Nat) : ∀ (f n : Nat), 1 ≤ n → Up lt p n → n ≤ evK lt (kas_asc p f n) ∧ evK lt (kas_asc p f n) ≤ n + f ∧ Up lt p (evK lt (kas_asc p f n)) ∧
    (evK lt (kas_asc p f n) < n + f → lt (gA p (evK lt (kas_asc p f n))) (gA p (evK lt (kas_asc p f n) - 1)) = true) := by
  intro f
  induction f with
  | zero => exact fun n h1 h => ⟨Nat.le_refl _, Nat.le_refl _, h, fun z => absurd z (Nat.lt_irrefl _)⟩
  | succ f ih =>
    intro n h1 h
    have e : evK lt (kas_asc p (f + 1) n) = evK lt (if lt (gA p n) (gA p (n - 1)) = true then .ret n else kas_asc p f (n + 1)) := rfl
    rw [e]
    cases c : lt (gA p n) (gA p (n - 1)) with
    | true =>
      rw [if_pos rfl]
      exact ⟨Nat.le_refl _, Nat.le_add_right _ _, h, fun _ => c⟩
    | false =>
      rw [if_neg (by simp)]
      obtain ⟨a1, a2, a3, a4⟩ := ih (n + 1) (by omega) (h.more O h1 c)
      exact ⟨by omega, by omega, a3, fun z => a4 (by omega)⟩
noncomputable def EqS (lt : Nat → Nat → Bool) (p : Array Nat) (n q : Nat) : Prop := ∀ i, n - (q + 1) ≤ i → i < n → leK lt (gA p i) (gA p (n - 1)) ∧ leK lt (gA p (n - 1)) (gA p i)
theorem rev_eqv (O : LtO lt) {p : Array Nat} {n q : Nat} (hn : n ≤ p.size) (hq : q + 1 ≤ n) (h : EqS lt p n q) (x : Nat) : leK lt (gA (kas_rev p (n - (q + 1)) n) x) (gA p x) ∧ leK lt (gA p x) (gA (kas_rev p (n - (q + 1)) n) x) := by
  rw [gA_rev hn]
  split
  · next hx =>
    obtain ⟨a1, a2⟩ := h x hx.1 hx.2
    obtain ⟨b1, b2⟩ := h (n - (q + 1) + n - 1 - x) (by omega) (by omega)
    exact ⟨leK_trans O b1 a2, leK_trans O a1 b2⟩
  · exact ⟨leK_refl O _, leK_refl O _⟩
theorem dn_rev (O : LtO lt) {p : Array Nat} {n q k : Nat} (hn : n ≤ p.size) (hq : q + 1 ≤ n) (h : EqS lt p n q) (d : Dn lt p k) : Dn lt (kas_rev p (n - (q + 1)) n) k := fun i j hij hj =>
  leK_trans O (rev_eqv O hn hq h j).1 (leK_trans O (d i j hij hj) (rev_eqv O hn hq h i).2)
theorem desc_ev (O : LtO lt) : ∀ (f : Nat) (p : Array Nat) (n q : Nat), q + 1 ≤ n → n + f ≤ p.size → Dn lt p n → EqS lt p n q →
    (evK lt (kas_desc f p n q)).1.Perm p ∧ n ≤ (evK lt (kas_desc f p n q)).2.1 ∧ (evK lt (kas_desc f p n q)).2.1 ≤ n + f ∧ Dn lt (evK lt (kas_desc f p n q)).1 (evK lt (kas_desc f p n q)).2.1 ∧
    (evK lt (kas_desc f p n q)).2.2 + 1 ≤ (evK lt (kas_desc f p n q)).2.1 ∧ EqS lt (evK lt (kas_desc f p n q)).1 (evK lt (kas_desc f p n q)).2.1 (evK lt (kas_desc f p n q)).2.2 := by
  intro f
  induction f with
  | zero => exact fun p n q h1 h2 h3 h4 => ⟨.refl _, Nat.le_refl _, Nat.le_refl _, h3, h1, h4⟩
  | succ f ih =>
    intro p n q h1 h2 h3 h4
    have e : evK lt (kas_desc (f + 1) p n q) = evK lt (if lt (gA p n) (gA p (n - 1)) = true then (if q > 0 then kas_desc f (kas_rev p (n - (q + 1)) n) (n + 1) 0 else kas_desc f p (n + 1) 0)
      else .ask (gA p (n - 1)) (gA p n) fun d => if d = true then .ret (p, n, q) else kas_desc f p (n + 1) (q + 1)) := rfl
    rw [e]
    have one : ∀ p : Array Nat, EqS lt p (n + 1) 0 := fun p i h1 h2 => by
      have : i = n + 1 - 1 := by omega
      rw [this]; exact ⟨leK_refl O _, leK_refl O _⟩
    cases c : lt (gA p n) (gA p (n - 1)) with
    | true =>
      rw [if_pos rfl]
      have d1 := h3.more O (by omega) (leK_of O c)
      by_cases hq : q > 0
      · rw [if_pos hq]
        obtain ⟨a1, a2, a3, a4, a5, a6⟩ := ih (kas_rev p (n - (q + 1)) n) (n + 1) 0 (by omega) (by rw [rev_size]; omega) (dn_rev O (by omega) h1 h4 d1) (one _)
        exact ⟨a1.trans (rev_perm _ _ _), by omega, by omega, a4, a5, a6⟩
      · rw [if_neg hq]
        obtain ⟨a1, a2, a3, a4, a5, a6⟩ := ih p (n + 1) 0 (by omega) (by omega) d1 (one _)
        exact ⟨a1, by omega, by omega, a4, a5, a6⟩
    | false =>
      rw [if_neg (by simp)]
      show (evK lt (if lt (gA p (n - 1)) (gA p n) = true then .ret (p, n, q) else kas_desc f p (n + 1) (q + 1))).1.Perm p ∧ _
      show _ ∧ n ≤ (evK lt (if lt (gA p (n - 1)) (gA p n) = true then .ret (p, n, q) else kas_desc f p (n + 1) (q + 1))).2.1 ∧ (evK lt (if lt (gA p (n - 1)) (gA p n) = true then .ret (p, n, q) else kas_desc f p (n + 1) (q + 1))).2.1 ≤ _ ∧ Dn lt (evK lt (if lt (gA p (n - 1)) (gA p n) = true then .ret (p, n, q) else kas_desc f p (n + 1) (q + 1))).1 (evK lt (if lt (gA p (n - 1)) (gA p n) = true then .ret (p, n, q) else kas_desc f p (n + 1) (q + 1))).2.1 ∧ (evK lt (if lt (gA p (n - 1)) (gA p n) = true then .ret (p, n, q) else kas_desc f p (n + 1) (q + 1))).2.2 + 1 ≤ (evK lt (if lt (gA p (n - 1)) (gA p n) = true then .ret (p, n, q) else kas_desc f p (n + 1) (q + 1))).2.1 ∧ EqS lt (evK lt (if lt (gA p (n - 1)) (gA p n) = true then .ret (p, n, q) else kas_desc f p (n + 1) (q + 1))).1 (evK lt (if lt (gA p (n - 1)) (gA p n) = true then .ret (p, n, q) else kas_desc f p (n + 1) (q + 1))).2.1 (evK lt (if lt (gA p (n - 1)) (gA p n) = true then .ret (p, n, q) else kas_desc f p (n + 1) (q + 1))).2.2
      cases d : lt (gA p (n - 1)) (gA p n) with
      | true =>
        rw [if_pos rfl]
        exact ⟨.refl _, Nat.le_refl _, Nat.le_add_right _ _, h3, h1, h4⟩
      | false =>
        rw [if_neg (by simp)]
        have es : EqS lt p (n + 1) (q + 1) := fun i g1 g2 => by
          rw [Nat.add_sub_cancel]
          by_cases hi : i = n
          · rw [hi]; exact ⟨leK_refl O _, leK_refl O _⟩
          · obtain ⟨b1, b2⟩ := h4 i (by omega) (by omega)
            exact ⟨leK_trans O b1 c, leK_trans O d b2⟩
        obtain ⟨a1, a2, a3, a4, a5, a6⟩ := ih p (n + 1) (q + 1) (by omega) (by omega) (h3.more O (by omega) d) es
        exact ⟨a1, by omega, by omega, a4, a5, a6⟩
theorem up_of_dn {p : Array Nat} {n : Nat} (hn : n ≤ p.size) (d : Dn lt p n) : Up lt (kas_rev p 0 n) n := fun i j hij hj => by
  rw [gA_rev hn, gA_rev hn, if_pos ⟨Nat.zero_le _, by omega⟩, if_pos ⟨Nat.zero_le _, hj⟩]
  exact d _ _ (by omega) (by omega)
theorem tail_ev (O : LtO lt) {p : Array Nat} {n nrem : Nat} (h1 : 1 ≤ n) (hn : n ≤ nrem) (hz : nrem ≤ p.size) (d : Dn lt p n) :
    (evK lt (kas_tail3 n nrem p)).2.Perm p ∧ 1 ≤ (evK lt (kas_tail3 n nrem p)).1 ∧ (evK lt (kas_tail3 n nrem p)).1 ≤ nrem ∧ Up lt (evK lt (kas_tail3 n nrem p)).2 (evK lt (kas_tail3 n nrem p)).1 := by
  unfold kas_tail3
  rw [evK_bind]
  obtain ⟨a1, a2, a3, _⟩ := asc_ev O (kas_rev p 0 n) (nrem - n) n h1 (up_of_dn (by omega) d)
  exact ⟨rev_perm _ _ _, Nat.le_trans h1 a1, Nat.le_trans a2 (by omega), a3⟩
theorem descPart_ev (O : LtO lt) {p : Array Nat} {n nrem : Nat} (h1 : 1 ≤ n) (hn : n + 1 ≤ nrem) (hz : nrem ≤ p.size) (d : Dn lt p (n + 1)) :
    (evK lt (kas_descPart n nrem p)).2.Perm p ∧ 1 ≤ (evK lt (kas_descPart n nrem p)).1 ∧ (evK lt (kas_descPart n nrem p)).1 ≤ nrem ∧ Up lt (evK lt (kas_descPart n nrem p)).2 (evK lt (kas_descPart n nrem p)).1 := by
  unfold kas_descPart
  rw [evK_bind]
  obtain ⟨a1, a2, a3, a4, a5, a6⟩ := desc_ev O (nrem - (n + 1)) p (n + 1) 0 (by omega) (by omega) d (fun i g1 g2 => by
    have : i = n + 1 - 1 := by omega
    rw [this]; exact ⟨leK_refl O _, leK_refl O _⟩)
  generalize evK lt (kas_desc (nrem - (n + 1)) p (n + 1) 0) = r at a1 a2 a3 a4 a5 a6 ⊢
  have hs := a1.size_eq
  by_cases hq : r.2.2 > 0
  · rw [if_pos hq]
    obtain ⟨b1, b2, b3, b4⟩ := tail_ev O (p := kas_rev r.1 (r.2.1 - (r.2.2 + 1)) r.2.1) (n := r.2.1) (nrem := nrem) (by omega) (by omega) (by rw [rev_size]; omega) (dn_rev O (by omega) a5 a6 a4)
    exact ⟨(b1.trans (rev_perm _ _ _)).trans a1, b2, b3, b4⟩
  · rw [if_neg hq]
    obtain ⟨b1, b2, b3, b4⟩ := tail_ev O (p := r.1) (n := r.2.1) (nrem := nrem) (by omega) (by omega) (by omega) a4
    exact ⟨b1.trans a1, b2, b3, b4⟩
theorem count_ev (O : LtO lt) {p : Array Nat} {nrem : Nat} (h1 : 1 ≤ nrem) (hz : nrem ≤ p.size) :
    (evK lt (kas_count nrem p)).2.Perm p ∧ 1 ≤ (evK lt (kas_count nrem p)).1 ∧ (evK lt (kas_count nrem p)).1 ≤ nrem ∧ Up lt (evK lt (kas_count nrem p)).2 (evK lt (kas_count nrem p)).1 := by
  unfold kas_count
  rw [evK_bind]
  obtain ⟨a1, a2, a3, a4⟩ := asc_ev O p (nrem - 1) 1 (Nat.le_refl _) (up_one O p)
  generalize evK lt (kas_asc p (nrem - 1) 1) = m at a1 a2 a3 a4 ⊢
  by_cases hm : m = nrem
  · rw [if_pos (by simpa using hm)]
    exact ⟨.refl _, a1, by show m ≤ nrem; omega, a3⟩
  · rw [if_neg (by simpa using hm)]
    have c := a4 (by omega)
    by_cases h2 : m > 1
    · rw [if_pos h2]
      have e : evK lt (KasT.ask (gA p 0) (gA p (m - 1)) fun c => if c = true then .ret (m, p) else kas_descPart m nrem (kas_rev p 0 m)) = evK lt (if lt (gA p 0) (gA p (m - 1)) = true then .ret (m, p) else kas_descPart m nrem (kas_rev p 0 m)) := rfl
      rw [e]
      cases d : lt (gA p 0) (gA p (m - 1)) with
      | true => rw [if_pos rfl]; exact ⟨.refl _, a1, by show m ≤ nrem; omega, a3⟩
      | false =>
        rw [if_neg (by simp)]
        have all : ∀ x y, x < m → y < m → leK lt (gA p x) (gA p y) := fun x y hx hy => leK_trans O (a3 x (m - 1) (by omega) (by omega)) (leK_trans O d (a3 0 y (Nat.zero_le _) hy))
        obtain ⟨b1, b2, b3, b4⟩ := descPart_ev O (p := kas_rev p 0 m) (n := m) (nrem := nrem) a1 (by omega) (by rw [rev_size]; omega) (by
          intro i j hij hj
          rw [gA_rev (by omega), gA_rev (by omega)]
          by_cases hjm : j < m
          · rw [if_pos ⟨Nat.zero_le j, hjm⟩, if_pos ⟨Nat.zero_le i, by omega⟩]
            exact all _ _ (by omega) (by omega)
          · rw [if_neg (fun z => hjm z.2)]
            have ej : j = m := by omega
            subst ej
            by_cases hi : i < j
            · rw [if_pos ⟨Nat.zero_le _, hi⟩]
              exact leK_trans O (leK_of O c) (all _ _ (by omega) (by omega))
            · have : i = j := by omega
              subst this
              rw [if_neg (fun z => hi z.2)]
              exact leK_refl O _)
        exact ⟨b1.trans (rev_perm _ _ _), b2, b3, b4⟩
    · rw [if_neg h2]
      have em : m = 1 := by omega
      subst em
      refine descPart_ev O (Nat.le_refl _) (by omega) hz fun i j hij hj => ?_
      by_cases hj0 : j = 0
      · have : i = j := by omega
        rw [this]; exact leK_refl O _
      · have ej : j = 1 := by omega
        by_cases hi : i = 0
        · rw [hi, ej]; exact leK_of O c
        · have : i = j := by omega
          rw [this]; exact leK_refl O _
theorem place_ev (O : LtO lt) {p : Array Nat} {k : Nat} (hs : Up lt p k) : ∀ (f l r : Nat), l ≤ r → r ≤ k → r - l ≤ f → (∀ i, i < l → leK lt (gA p i) (gA p k)) → (∀ i, r ≤ i → i < k → leK lt (gA p k) (gA p i)) →
    evK lt (kas_place p k f l r) ≤ k ∧ (∀ i, i < evK lt (kas_place p k f l r) → leK lt (gA p i) (gA p k)) ∧ (∀ i, evK lt (kas_place p k f l r) ≤ i → i < k → leK lt (gA p k) (gA p i)) := by
  intro f
  induction f with
  | zero =>
    intro l r h1 h2 h3 h4 h5
    have e : l = r := by omega
    subst e
    exact ⟨h2, h4, h5⟩
  | succ f ih =>
    intro l r h1 h2 h3 h4 h5
    have e : kas_place p k (f + 1) l r = if l ≥ r then .ret l else .ask (gA p k) (gA p ((l + r) / 2)) fun c => if c = true then kas_place p k f l ((l + r) / 2) else kas_place p k f ((l + r) / 2 + 1) r := rfl
    rw [e]
    by_cases hlr : l ≥ r
    · rw [if_pos hlr]
      have e : l = r := by omega
      subst e
      exact ⟨h2, h4, h5⟩
    · rw [if_neg hlr]
      have e2 : evK lt (KasT.ask (gA p k) (gA p ((l + r) / 2)) fun c => if c = true then kas_place p k f l ((l + r) / 2) else kas_place p k f ((l + r) / 2 + 1) r) = evK lt (if lt (gA p k) (gA p ((l + r) / 2)) = true then kas_place p k f l ((l + r) / 2) else kas_place p k f ((l + r) / 2 + 1) r) := rfl
      rw [e2]
      cases c : lt (gA p k) (gA p ((l + r) / 2)) with
      | true =>
        rw [if_pos rfl]
        exact ih l ((l + r) / 2) (by omega) (by omega) (by omega) h4 fun i g1 g2 => leK_trans O (leK_of O c) (hs _ _ g1 g2)
      | false =>
        rw [if_neg (by simp)]
        exact ih ((l + r) / 2 + 1) r (by omega) h2 (by omega) (fun i g => leK_trans O (hs i ((l + r) / 2) (by omega) (by omega)) c) h5
theorem bin_ev (O : LtO lt) : ∀ (f : Nat) (p : Array Nat) (k : Nat), k + f ≤ p.size → Up lt p k → (evK lt (kas_bin f p k)).Perm p ∧ Up lt (evK lt (kas_bin f p k)) (k + f) := by
  intro f
  induction f with
  | zero => exact fun p k _ h => ⟨.refl _, h⟩
  | succ f ih =>
    intro p k hz h
    have e : kas_bin (f + 1) p k = (kas_place p k k 0 k).bind fun l => kas_bin f (bubble p k (k - l)) (k + 1) := rfl
    rw [e, evK_bind]
    obtain ⟨a1, a2, a3⟩ := place_ev O h k 0 k (Nat.zero_le _) (Nat.le_refl _) (by omega) (fun i g => absurd g (Nat.not_lt_zero _)) (fun i g1 g2 => absurd g2 (by omega))
    generalize evK lt (kas_place p k k 0 k) = l at a1 a2 a3 ⊢
    have up : Up lt (bubble p k (k - l)) (k + 1) := fun i j hij hj => by
      rw [gA_bub (by omega) a1, gA_bub (by omega) a1]
      by_cases i1 : i = l
      · rw [if_pos i1]
        by_cases j1 : j = l
        · rw [if_pos j1]; exact leK_refl O _
        · rw [if_neg j1, if_pos ⟨by omega, by omega⟩]
          exact a3 _ (by omega) (by omega)
      · rw [if_neg i1]
        by_cases i2 : l < i ∧ i ≤ k
        · rw [if_pos i2, if_neg (by omega), if_pos ⟨by omega, by omega⟩]
          exact h _ _ (by omega) (by omega)
        · rw [if_neg i2]
          by_cases j1 : j = l
          · rw [if_pos j1]; exact a2 _ (by omega)
          · rw [if_neg j1]
            by_cases j2 : l < j ∧ j ≤ k
            · rw [if_pos j2]; exact h _ _ (by omega) (by omega)
            · rw [if_neg j2]; exact h _ _ hij (by omega)
    obtain ⟨b1, b2⟩ := ih (bubble p k (k - l)) (k + 1) (by rw [bubble_size]; omega) up
    exact ⟨b1.trans (bubble_perm _ _ _), by rw [show k + (f + 1) = k + 1 + f by omega]; exact b2⟩
theorem sort_ev (O : LtO lt) {n : Nat} (h1 : 1 ≤ n) : (evK lt (kas_sort n)).Perm (List.range n).toArray ∧ Up lt (evK lt (kas_sort n)) n := by
  unfold kas_sort
  rw [evK_bind]
  have hsz : (List.range n).toArray.size = n := by simp
  obtain ⟨a1, a2, a3, a4⟩ := count_ev O (p := (List.range n).toArray) h1 (by omega)
  generalize evK lt (kas_count n (List.range n).toArray) = r at a1 a2 a3 a4 ⊢
  have hs := a1.size_eq
  by_cases h : r.1 < n
  · rw [if_pos h]
    have em : max r.1 1 = r.1 := by omega
    rw [em]
    obtain ⟨b1, b2⟩ := bin_ev O (n - r.1) r.2 r.1 (by omega) a4
    exact ⟨b1.trans a1, by rw [show n = r.1 + (n - r.1) by omega]; exact (by rw [show r.1 + (n - r.1) - r.1 = n - r.1 by omega]; exact b2)⟩
  · rw [if_neg h]
    have e : r.1 = n := by omega
    exact ⟨a1, by rw [← e]; exact a4⟩
noncomputable def RngP {α : Type} (n : Nat) (R : α → Prop) : KasT α → Prop
  | .ret a => R a
  | .ask i j k => i < n ∧ j < n ∧ ∀ b, RngP n R (k b)
theorem RngP.bind {α β : Type} {n : Nat} {R : α → Prop} {R' : β → Prop} {f : α → KasT β} (t : KasT α) (h : RngP n R t) (hf : ∀ a, R a → RngP n R' (f a)) : RngP n R' (t.bind f) := by
  induction t with
  | ret a => exact hf a h
  | ask i j k ih => exact ⟨h.1, h.2.1, fun b => ih b (h.2.2 b)⟩
theorem wp_in {α : Type} {n : Nat} {R : α → Prop} {lt : Nat → Nat → Bool} {cmp : Nat → Nat → (Bool → Shared → Prop) → Shared → Prop} {Pq : Shared → Prop} (hc : ∀ i j C s, i < n → j < n → Pq s → (∀ s', Pq s' → C (lt i j) s') → cmp i j C s) (t : KasT α) (ht : RngP n R t) {Q : α → Shared → Prop} :
    ∀ s, Pq s → (∀ s', Pq s' → Q (evK lt t) s') → t.kasWp cmp Q s := by
  induction t with
  | ret a => exact fun s h q => q s h
  | ask i j k ih => exact fun s h q => hc i j _ s ht.1 ht.2.1 h fun s' h' => ih (lt i j) (ht.2.2 _) s' h' q
noncomputable def In_ (n : Nat) (p : Array Nat) : Prop := ∀ v ∈ p.toList, v < n
theorem In_.gA {n : Nat} {p : Array Nat} (h : In_ n p) (h1 : 1 ≤ n) (x : Nat) : gA p x < n := by
  unfold L2.gA
  rw [Array.getD_eq_getD_getElem?]
  cases e : p[x]? with
  | none => exact h1
  | some v => exact h v (by rw [Array.mem_toList_iff]; exact Array.mem_of_getElem? e)
theorem In_.perm {n : Nat} {p q : Array Nat} (h : In_ n p) (e : q.Perm p) : In_ n q := fun v hv => h v ((Array.perm_iff_toList_perm.mp e).mem_iff.mp hv)
section
variable {n : Nat} (h1 : 1 ≤ n)
include h1
theorem asc_in {p : Array Nat} (h : In_ n p) : ∀ f m, RngP n (fun _ => True) (kas_asc p f m) := by
  intro f
  induction f with
  | zero => exact fun _ => trivial
  | succ f ih =>
    intro m
    refine ⟨h.gA h1 _, h.gA h1 _, fun b => ?_⟩
    cases b with
    | true => exact trivial
    | false => exact ih _
theorem desc_in : ∀ f (p : Array Nat) m q, In_ n p → RngP n (fun r => In_ n r.1) (kas_desc f p m q) := by
  intro f
  induction f with
  | zero => exact fun p m q h => h
  | succ f ih =>
    intro p m q h
    refine ⟨h.gA h1 _, h.gA h1 _, fun b => ?_⟩
    cases b with
    | true =>
      show RngP n _ (if q > 0 then kas_desc f (kas_rev p (m - (q + 1)) m) (m + 1) 0 else kas_desc f p (m + 1) 0)
      by_cases hq : q > 0
      · rw [if_pos hq]; exact ih _ _ _ (h.perm (rev_perm _ _ _))
      · rw [if_neg hq]; exact ih _ _ _ h
    | false =>
      refine ⟨h.gA h1 _, h.gA h1 _, fun c => ?_⟩
      cases c with
      | true => exact h
      | false => exact ih _ _ _ h
theorem tail_in {p : Array Nat} (h : In_ n p) (m nr : Nat) : RngP n (fun r => In_ n r.2) (kas_tail3 m nr p) :=
  (asc_in h1 (h.perm (rev_perm _ _ _)) _ _).bind _ fun _ _ => h.perm (rev_perm _ _ _)
theorem descPart_in {p : Array Nat} (h : In_ n p) (m nr : Nat) : RngP n (fun r => In_ n r.2) (kas_descPart m nr p) := by
  refine (desc_in h1 _ p _ _ h).bind _ fun r hr => ?_
  by_cases hq : r.2.2 > 0
  · rw [if_pos hq]; exact tail_in h1 (hr.perm (rev_perm _ _ _)) _ _
  · rw [if_neg hq]; exact tail_in h1 hr _ _
theorem count_in {p : Array Nat} (h : In_ n p) (nr : Nat) : RngP n (fun r => In_ n r.2) (kas_count nr p) := by
  refine (asc_in h1 h _ _).bind _ fun m _ => ?_
  by_cases hm : (m == nr) = true
  · rw [if_pos hm]; exact h
  · rw [if_neg hm]
    by_cases h2 : m > 1
    · rw [if_pos h2]
      refine ⟨h.gA h1 _, h.gA h1 _, fun b => ?_⟩
      cases b with
      | true => exact h
      | false => exact descPart_in h1 (h.perm (rev_perm _ _ _)) _ _
    · rw [if_neg h2]; exact descPart_in h1 h _ _
theorem place_in {p : Array Nat} (h : In_ n p) (k : Nat) : ∀ f l r, RngP n (fun _ => True) (kas_place p k f l r) := by
  intro f
  induction f with
  | zero => exact fun _ _ => trivial
  | succ f ih =>
    intro l r
    show RngP n _ (if l ≥ r then .ret l else .ask (gA p k) (gA p ((l + r) / 2)) fun c => if c = true then kas_place p k f l ((l + r) / 2) else kas_place p k f ((l + r) / 2 + 1) r)
    by_cases hlr : l ≥ r
    · rw [if_pos hlr]; exact trivial
    · rw [if_neg hlr]
      refine ⟨h.gA h1 _, h.gA h1 _, fun b => ?_⟩
      cases b with
      | true => exact ih _ _
      | false => exact ih _ _
theorem bin_in : ∀ f (p : Array Nat) k, In_ n p → RngP n (In_ n) (kas_bin f p k) := by
  intro f
  induction f with
  | zero => exact fun p k h => h
  | succ f ih => exact fun p k h => (place_in h1 h k _ _ _).bind _ fun l _ => ih _ _ (h.perm (bubble_perm _ _ _))
theorem sort_in : RngP n (In_ n) (kas_sort n) := by
  refine (count_in h1 (p := (List.range n).toArray) (fun v hv => by simpa using hv) n).bind _ fun r hr => ?_
  by_cases h : r.1 < n
  · rw [if_pos h]; exact bin_in h1 _ _ _ hr
  · rw [if_neg h]; exact hr
end
end
end L2
set_option Elab.async false
set_option linter.all false
set_option maxRecDepth 100000
set_option maxHeartbeats 4000000
namespace L2
open PySem PySem.Spec PyProof.Rows PySem.W
noncomputable def ltS (a b : Str) : Bool := decide (a.cps.toList < b.cps.toList)
theorem ltS_asym {a b : Str} (h : ltS a b = true) : ltS b a = false := KeyOrd.klt_asymm (O := strKind.toKeyOrd) h
theorem ltS_trn {a b c : Str} (h1 : ltS b a = false) (h2 : ltS c b = false) : ltS c a = false := KeyOrd.kle_trans (O := strKind.toKeyOrd) (a := a.cps.toList) (b := b.cps.toList) (c := c.cps.toList) h1 h2
theorem ltS_tot {a b : Str} (h1 : ltS a b = false) (h2 : ltS b a = false) : a = b := by
  have e : a.cps.toList = b.cps.toList := strKind.total _ _ h1 h2
  cases a; cases b
  simp only [Str.mk.injEq]
  exact Array.toList_inj.mp e
theorem ltS_self (a : Str) : ltS a a = false := strKind.irrefl _
noncomputable def ltP (a b : Str × Str) : Bool := if a.1 = b.1 then ltS a.2 b.2 else ltS a.1 b.1
theorem ltP_asym {a b : Str × Str} (h : ltP a b = true) : ltP b a = false := by
  unfold ltP at h ⊢
  by_cases e : a.1 = b.1
  · rw [if_pos e] at h; rw [if_pos e.symm]; exact ltS_asym h
  · rw [if_neg e] at h; rw [if_neg (Ne.symm e)]; exact ltS_asym h
theorem ltP_trn {a b c : Str × Str} (h1 : ltP b a = false) (h2 : ltP c b = false) : ltP c a = false := by
  unfold ltP at h1 h2 ⊢
  by_cases e1 : b.1 = a.1 <;> by_cases e2 : c.1 = b.1
  · rw [if_pos e1] at h1; rw [if_pos e2] at h2; rw [if_pos (e2.trans e1)]; exact ltS_trn h1 h2
  · rw [if_neg e2] at h2; rw [if_neg (fun z => e2 (z.trans e1.symm)), ← e1]; exact h2
  · rw [if_neg e1] at h1; rw [if_neg (fun z => e1 (e2.symm.trans z)), e2]; exact h1
  · rw [if_neg e1] at h1; rw [if_neg e2] at h2
    by_cases e3 : c.1 = a.1
    · exact absurd (ltS_tot (a := b.1) (b := a.1) h1 (by rw [← e3]; exact h2)) e1
    · rw [if_neg e3]; exact ltS_trn h1 h2
theorem ltP_tot {a b : Str × Str} (h1 : ltP a b = false) (h2 : ltP b a = false) : a = b := by
  unfold ltP at h1 h2
  by_cases e : a.1 = b.1
  · rw [if_pos e] at h1; rw [if_pos e.symm] at h2
    exact Prod.ext e (ltS_tot h1 h2)
  · rw [if_neg e] at h1; rw [if_neg (Ne.symm e)] at h2
    exact absurd (ltS_tot h1 h2) e
noncomputable def Asc {α : Type} (lt : α → α → Bool) (l : List α) : Prop := l.Pairwise fun a b => lt b a = false
theorem asc_uniq {α : Type} {lt : α → α → Bool} (tot : ∀ a b, lt a b = false → lt b a = false → a = b) : ∀ {l l' : List α}, l.Perm l' → Asc lt l → Asc lt l' → l = l' := by
  intro l
  induction l with
  | nil => intro l' p _ _; exact (List.Perm.nil_eq p)
  | cons x l ih =>
    intro l' p h h'
    cases l' with
    | nil => exact absurd p.length_eq (by simp)
    | cons y l' =>
      obtain ⟨a1, a2⟩ := List.pairwise_cons.mp h
      obtain ⟨b1, b2⟩ := List.pairwise_cons.mp h'
      have e : x = y := by
        have hx : x ∈ y :: l' := p.mem_iff.mp List.mem_cons_self
        have hy : y ∈ x :: l := p.mem_iff.mpr List.mem_cons_self
        rcases List.mem_cons.mp hx with e | hx
        · exact e
        · rcases List.mem_cons.mp hy with e | hy
          · exact e.symm
          · exact tot x y (b1 x hx) (a1 y hy)
      subst e
      rw [ih (List.Perm.cons_inv p) a2 b2]
theorem rising_asc : ∀ (l : List Str) (p : Str), risingS p l = true → Asc ltS (p :: l)
  | [], p, _ => List.pairwise_singleton _ _
  | x :: r, p, h => by
    unfold risingS at h
    obtain ⟨h1, h2⟩ := Bool.and_eq_true_iff.mp h
    have ih := rising_asc r x h2
    have hpx : ltS x p = false := by
      rw [ltCps_eq] at h1
      simpa [ltS] using h1
    refine List.pairwise_cons.mpr ⟨fun y hy => ?_, ih⟩
    rcases List.mem_cons.mp hy with rfl | hy
    · exact hpx
    · exact ltS_trn hpx ((List.pairwise_cons.mp ih).1 y hy)
theorem sorted_asc (l : List Str) (h : sortedS l = true) : Asc ltS l := by
  cases l with
  | nil => exact .nil
  | cons x r => exact rising_asc r x h
theorem vals_strs : ∀ {us : List Value} {ys : List Str}, StrsAre us ys → Vals (ys.map V.str) us
  | _, _, .nil => .nil
  | _, _, .cons _ _ h => .cons ⟨_, rfl⟩ (vals_strs h)
section
variable {X : Cx}
theorem call_sortedS : CallR X (.builtin "sorted") (fun xs H Q => ∃ (a : Addr) (zs : List Str), xs = [.ref a] ∧ H a = some (.lst (zs.map V.str)) ∧ zs.length < 64 ∧
    ∀ (l : Addr) (ys : List Str), H l = none → ys.Perm zs → Asc ltS ys → Q (.ref l) (upd H l (.lst (ys.map V.str)))) := by
  intro pins s σ H xs us Q I r h
  obtain ⟨a, zs, rfl, hS, hz, q⟩ := h
  obtain ⟨u, rfl, rx⟩ := vals1 r
  cases rx
  obtain ⟨its, r', pl, hzl⟩ := I.list (.of hS)
  have hst := strs_of r'
  have hl : its.length = zs.length := by have := r'.length; rw [List.length_map] at this; exact this.symm
  refine sorted_strs pl.isList hst (by omega) fun out ss a1 a2 a3 => ?_
  obtain ⟨e, he⟩ := sortedAll_at s.heap its out
  have le : ss.length = zs.length := a2.length_eq
  refine ⟨.ref (s.heap.objs.size + 1), _, I.laid (t' := s.toks) (h' := sortedAll s.heap its out) (o := .lst (ss.map V.str)) (fun b o z => sortedAll_old z) (Nat.le_succ _) ?_, rfl, q _ ss (I.hok.fresh (Nat.le_succ _)) a2 (sorted_asc _ a3)⟩
  exact ⟨by rw [List.length_map, sizeLine_eq]; omega, out.toList, e, vals_strs a1, by rw [Array.toArray_toList]; exact he⟩
end
noncomputable def PrAt (h : Heap) (v : Value) (p : Str × Str) : Prop := ∃ (t : Addr) (o : Obj) (k : Nat) (t1 t2 : Tok), v = .ref t ∧ h.get? t = some o ∧ o.cls = .type "tuple" ∧ o.data = .seq #[.str p.1 t1, .str p.2 t2] k
inductive PrsAt (h : Heap) : List Value → List (Str × Str) → Prop
  | nil : PrsAt h [] []
  | cons {v : Value} {p : Str × Str} {vs : List Value} {ps : List (Str × Str)} (a : PrAt h v p) (r : PrsAt h vs ps) : PrsAt h (v :: vs) (p :: ps)
theorem PrsAt.len {h : Heap} {vs : List Value} {ps : List (Str × Str)} (x : PrsAt h vs ps) : vs.length = ps.length := by
  induction x with
  | nil => rfl
  | cons _ _ ih => rw [List.length_cons, List.length_cons, ih]
theorem PrsAt.get {h : Heap} {vs : List Value} {ps : List (Str × Str)} (x : PrsAt h vs ps) : ∀ (i : Nat), i < vs.length → PrAt h (vs.getD i .none) (ps.getD i (Str.empty, Str.empty)) := by
  induction x with
  | nil => exact fun i hi => absurd hi (Nat.not_lt_zero _)
  | cons a r ih =>
    intro i hi
    cases i with
    | zero => exact a
    | succ i => exact ih i (by simpa using hi)
theorem PrsAt.keep {h h' : Heap} {a : Addr} {u : Array Value} {n : Nat} (ha : h.get? a = some (seqObj "list" u n)) (k : ∀ b o, b ≠ a → h.get? b = some o → h'.get? b = some o) {vs : List Value} {ps : List (Str × Str)} (x : PrsAt h vs ps) : PrsAt h' vs ps := by
  induction x with
  | nil => exact .nil
  | cons c r ih =>
    obtain ⟨t, o, j, t1, t2, e1, e2, e3, e4⟩ := c
    refine .cons ⟨t, o, j, t1, t2, e1, k t o (fun z => ?_) e2, e3, e4⟩ ih
    rw [z, ha] at e2
    cases e2
    exact absurd e3 (by show ¬ (Value.type "list" = Value.type "tuple"); decide)
section
variable {prog : Program} {w : World} {A : Around} {E : Value → Shared → Prop} {s : Shared}
theorem ask_pair {x y : Value} {p q : Str × Str} {C : Bool → Shared → Prop} (hx : PrAt s.heap x p) (hy : PrAt s.heap y q) (h : C (ltP p q) s) : wpAny (model prog w) A (keyLt' (tuples' true) x y) C E s := by
  obtain ⟨t, o, j, t1, t2, rfl, e2, _, e4⟩ := hx
  obtain ⟨t', o', j', t3, t4, rfl, f2, _, f4⟩ := hy
  refine kat_lt e2 e4 f2 f4 ?_
  show KatLex prog w A true _ C [(.str p.1 t1, .str q.1 t3), (.str p.2 t2, .str q.2 t4)] 0 s
  refine kat_cons (eqBool_str ?_)
  unfold ltP at h
  by_cases e : p.1 = q.1
  · rw [show (p.1 == q.1) = true by simpa using e]
    rw [if_pos e] at h
    refine kat_yes (kat_cons (eqBool_str ?_))
    by_cases e' : p.2 = q.2
    · rw [show (p.2 == q.2) = true by simpa using e']
      rw [e', ltS_self] at h
      exact kat_yes (kat_nil h)
    · rw [show (p.2 == q.2) = false by simpa using e']
      exact kat_no (kat_one _ _ (PyProof.Rows.lt_str h))
  · rw [show (p.1 == q.1) = false by simpa using e]
    rw [if_neg e] at h
    exact kat_no (oneLt_str h)
theorem kind_pairs {vs : List Value} {ps : List (Str × Str)} {C : SortKind → Shared → Prop} (x : PrsAt s.heap vs ps) (hne : 0 < vs.length) (h : C (tuples' true) s) : wpAny (model prog w) A (keyKind' vs.toArray) C E s := by
  have key : ∀ {vs : List Value} {ps : List (Str × Str)}, PrsAt s.heap vs ps → ∃ fs, KatTups s.heap vs fs ∧ fs.length = vs.length ∧ ∀ v ∈ fs, ∃ z t, v = .str z t := by
    intro vs ps x
    induction x with
    | nil => exact ⟨[], KatTups.nil, rfl, fun v hv => by cases hv⟩
    | cons c r ih =>
      obtain ⟨fs, a1, a2, a3⟩ := ih
      obtain ⟨t, o, j, t1, t2, rfl, e2, e3, e4⟩ := c
      refine ⟨_ :: fs, KatTups.cons e2 e3 e4 rfl a1, by rw [List.length_cons, List.length_cons, a2], fun v hv => ?_⟩
      rcases List.mem_cons.mp hv with rfl | hv
      · exact ⟨_, _, rfl⟩
      · exact a3 v hv
  obtain ⟨fs, a1, a2, a3⟩ := key x
  refine kat_kind (T := .type "str") a1 (by omega) (fun v hv => ?_) rfl h
  obtain ⟨z, t, rfl⟩ := a3 v hv
  exact Looks.of_pure rfl
noncomputable def pick {α : Type} (p : Array Nat) (l : List α) (d : α) : List α := p.toList.map fun i => l.getD i d
theorem pick_perm {α : Type} {p : Array Nat} {l : List α} (d : α) (h : p.Perm (List.range l.length).toArray) : (pick p l d).Perm l := by
  have h1 : (pick p l d).Perm ((List.range l.length).map fun i => l.getD i d) := (Array.perm_iff_toList_perm.mp h).map _
  have e : (List.range l.length).map (fun i => l.getD i d) = l := by
    apply List.ext_getElem
    · simp
    · intro i g1 g2
      simp [List.getD_eq_getElem?_getD, List.getElem?_eq_getElem g2]
  rwa [e] at h1
theorem pick_asc {p : Array Nat} {ps : List (Str × Str)} {n : Nat} (hp : p.size = n) (u : Up (fun i j => ltP (ps.getD i (Str.empty, Str.empty)) (ps.getD j (Str.empty, Str.empty))) p n) : Asc ltP (pick p ps (Str.empty, Str.empty)) := by
  refine List.pairwise_iff_getElem.mpr fun i j hi hj hij => ?_
  unfold pick at hi hj ⊢
  rw [List.length_map, Array.length_toList] at hi hj
  have z := u i j (Nat.le_of_lt hij) (by omega)
  unfold leK gA at z
  simp only [Array.getD_eq_getD_getElem?, Array.getElem?_eq_getElem hi, Array.getElem?_eq_getElem hj, Option.getD_some] at z
  simpa using z
theorem sort_pairs {a : Addr} {vs : List Value} {ps : List (Str × Str)} {n : Nat} {P : PySem.Fin → Shared → Prop} (hA : s.heap.get? a = some (seqObj "list" vs.toArray n)) (hT : PrsAt s.heap vs ps) (h64 : vs.length < 64)
    (h : ∀ (p : Array Nat) (g : Heap) (c : Nat), p.Perm (List.range vs.length).toArray → Asc ltP (pick p ps (Str.empty, Str.empty)) → (∀ b o, b ≠ a → s.heap.get? b = some o → g.get? b = some o) → g.get? a = some (seqObj "list" (pick p vs .none).toArray c) →
      P (.done (.ret .none)) { s with heap := g }) : wpAny (model prog w) A (Builtin.«list.sort» ⟨[.ref a], []⟩) P E s := by
  have lsz : vs.length ≤ sizeLine := by rw [sizeLine_eq]; omega
  obtain ⟨e1, hA1⟩ : ∃ e1, (s.heap.update a (Obj.mapSeq fun _ => (#[] : Array Value))).get? a = some (seqObj "list" #[] e1) := ⟨_, get?_update_seq hA fun _ => #[]⟩
  rw [list_sort_plain]
  refine wpAny_bind (listItems_at hA rfl (wpAny_bind (listUpdate_at hA rfl (wpAny_bind (seqEpoch_at hA1 rfl (wpAny_bind (wpAny_newTuple (wpAny_bind (wpAny_newList (wpAny_holding ?_) (Nat.zero_le _))) lsz)))) (by rw [List.size_toArray]; exact lsz) (Nat.zero_le _))))
  obtain ⟨g0, eg⟩ : ∃ g0, g0 = ((s.heap.update a (Obj.mapSeq fun _ => (#[] : Array Value))).push (seqObj "tuple" vs.toArray 0)).push (seqObj "list" #[] 0) := ⟨_, rfl⟩
  have hA2 : g0.get? a = some (seqObj "list" #[] e1) := by rw [eg]; exact Heap.get?_push_of_some _ (Heap.get?_push_of_some _ hA1)
  have kp : ∀ b o, b ≠ a → s.heap.get? b = some o → g0.get? b = some o := fun b o hb z => by
    rw [eg]; exact Heap.get?_push_of_some _ (Heap.get?_push_of_some _ ((Heap.get?_update_ne _ _ _ _ hb).trans z))
  show wpAny (model prog w) A _ P E { s with heap := ((s.heap.update a (Obj.mapSeq fun _ => (#[] : Array Value))).push (seqObj "tuple" vs.toArray 0)).push (seqObj "list" #[] 0) }
  rw [← eg]
  dsimp only
  have hT0 : PrsAt g0 vs ps := hT.keep hA kp
  have fin : ∀ (st : SortSt) (p : Array Nat), p.Perm (List.range vs.length).toArray → Asc ltP (pick p ps (Str.empty, Str.empty)) → (arrOf st).map (·.2) = (pick p vs .none).toArray → failedOf st = none →
      P (.done (.ret .none)) { s with heap := g0.update a (Obj.mapSeq fun _ => (arrOf st).map (·.2)) } := fun st p hp ha ho _ => by
    rw [ho]
    exact h p _ _ hp ha (fun b o hb z => (Heap.get?_update_ne _ _ _ _ hb).trans (kp b o hb z)) (get?_update_seq hA2 fun _ => (pick p vs .none).toArray)
  by_cases h2 : vs.toArray.size < 2
  · rw [if_pos h2, if_pos h2]
    refine wpAny_bind (wpAny_pure ?_)
    rw [StateT.run_pure]
    refine wpAny_bind (wpAny_pure ?_)
    dsimp only
    have l2 : vs.length < 2 := by simpa using h2
    have eo : (arrOf (SortSt.mk' general' (vs.toArray.zip vs.toArray) #[] 7 none)).map (·.2) = (pick (List.range vs.length).toArray vs .none).toArray := by
      show (vs.toArray.zip vs.toArray).map (·.2) = _
      have lv : vs = [] ∨ ∃ v, vs = [v] := by
        cases vs with
        | nil => exact .inl rfl
        | cons v r => cases r with
          | nil => exact .inr ⟨v, rfl⟩
          | cons _ _ => exact absurd l2 (by simp)
      apply Array.toList_inj.mp
      rcases lv with rfl | ⟨v, rfl⟩
      · simp [pick]
      · simp [pick, List.range_succ]
    have z := fin (SortSt.mk' general' (vs.toArray.zip vs.toArray) #[] 7 none) (List.range vs.length).toArray (.refl _) (by
      have lp := hT.len
      unfold pick
      refine List.pairwise_iff_getElem.mpr fun i j hi hj hij => ?_
      simp at hi hj
      omega) eo rfl
    have sz : ((arrOf (SortSt.mk' general' (vs.toArray.zip vs.toArray) #[] 7 none)).map (·.2)).size ≤ sizeLine := by
      rw [eo]; show (pick _ _ _).length ≤ _; unfold pick; simp; exact lsz
    refine wpAny_bind (seqEpoch_at hA2 rfl (wpAny_bind (listUpdate_at hA2 rfl ?_ (Nat.zero_le _) (Nat.le_succ_of_le sz))))
    simp only [bne_self_eq_false, Bool.false_eq_true, if_false]
    exact wpAny_pure z
  · rw [if_neg h2, if_neg h2]
    have l2 : 2 ≤ vs.length := by simpa using h2
    let lt : Nat → Nat → Bool := fun i j => ltP (ps.getD i (Str.empty, Str.empty)) (ps.getD j (Str.empty, Str.empty))
    have O : LtO lt := ⟨fun i j q => ltP_asym q, fun i j k q1 q2 => ltP_trn q1 q2⟩
    obtain ⟨pp, up⟩ := sort_ev O (n := vs.length) (by omega)
    have psz : (evK lt (kas_sort vs.length)).size = vs.length := by rw [pp.size_eq]; simp
    refine wpAny_bind (kind_pairs (s := { s with heap := g0 }) hT0 (by omega) ?_)
    refine wpAny_bind (wpAny_mono (kat_run (κ := tuples' true) (ks := vs) (vs := vs) (G := fun p s' => p = evK lt (kas_sort vs.length) ∧ s' = { s with heap := g0 })
      (Q := fun st s' => (arrOf st).map (·.2) = (pick (evK lt (kas_sort vs.length)) vs .none).toArray ∧ failedOf st = none ∧ s' = { s with heap := g0 }) rfl l2 h64 (fun p st s' _ b2 b3 b4 => ⟨by rw [← b4.1]; exact kat_snds rfl b2, b3, b4.2⟩) ?_) ?_ fun _ _ z => z)
    ·
      refine wp_in (lt := lt) (Pq := fun s' => s' = { s with heap := g0 }) (fun i j C s' hi hj hs hC => ?_) _ (sort_in (by omega)) _ rfl fun s' hs => ⟨rfl, hs⟩
      subst hs
      exact ask_pair (hT0.get i hi) (hT0.get j hj) (hC _ rfl)
    · rintro ⟨⟨⟩, st⟩ s' ⟨b1, b2, rfl⟩
      dsimp only
      have sz : ((arrOf st).map (·.2)).size ≤ sizeLine := by
        rw [b1]; show (pick _ _ _).length ≤ _; unfold pick; rw [List.length_map, Array.length_toList, psz]; exact lsz
      refine wpAny_bind (seqEpoch_at hA2 rfl (wpAny_bind (listUpdate_at hA2 rfl ?_ (Nat.zero_le _) (Nat.le_succ_of_le sz))))
      rw [b2]
      simp only [bne_self_eq_false, Bool.false_eq_true, if_false]
      exact wpAny_pure (fin st _ pp (pick_asc psz up) b1 b2)
end
noncomputable def pairV (p : Str × Str) : List V := [.str p.1, .str p.2]
theorem refV_of : ∀ {qs : List Addr} {us : List Value}, Vals (qs.map V.ref) us → us = qs.map Value.ref
  | [], _, .nil => rfl
  | q :: qs, _, .cons r h => by
    rw [List.map_cons, ← refV_of h]
    exact congrArg (· :: _) r
theorem vals_refs : ∀ (qs : List Addr), Vals (qs.map V.ref) (qs.map Value.ref)
  | [] => .nil
  | _ :: qs => .cons rfl (vals_refs qs)
section
variable {X : Cx} {pins : List (Addr × Obj)} {σ : St} {H : Hp} {s : Shared}
theorem pairs_at (I : Inv X pins σ H s) : ∀ {qs : List Addr} {ps : List (Str × Str)}, Paired (fun q r => H q = some (.tup r)) qs (ps.map pairV) → PrsAt s.heap (qs.map Value.ref) ps := by
  intro qs
  induction qs with
  | nil =>
    intro ps h
    cases ps with
    | nil => exact .nil
    | cons _ _ => cases h
  | cons q qs ih =>
    intro ps h
    cases ps with
    | nil => cases h
    | cons p ps =>
      cases h with
      | cons h1 h2 =>
      obtain ⟨its, r, pl, _⟩ := I.tuple (.of h1)
      obtain ⟨o, ho, hc, n, hd⟩ := pl
      cases r with
      | cons r1 r =>
      cases r with
      | cons r2 r =>
      cases r
      obtain ⟨t1, rfl⟩ := r1
      obtain ⟨t2, rfl⟩ := r2
      exact .cons ⟨q, o, n, t1, t2, rfl, ho, hc, hd⟩ (ih h2)
theorem PrsAt.more {h h' : Heap} (k : ∀ b o, h.get? b = some o → h'.get? b = some o) {vs : List Value} {ps : List (Str × Str)} (x : PrsAt h vs ps) : PrsAt h' vs ps := by
  induction x with
  | nil => exact .nil
  | cons c r ih =>
    obtain ⟨t, o, j, t1, t2, e1, e2, e3, e4⟩ := c
    exact .cons ⟨t, o, j, t1, t2, e1, k t o e2, e3, e4⟩ ih
theorem pick_map {α β : Type} (f : α → β) (p : Array Nat) (l : List α) (d : α) (e : β) (hp : ∀ i ∈ p.toList, i < l.length) : pick p (l.map f) e = (pick p l d).map f := by
  unfold pick
  rw [List.map_map]
  refine List.map_congr_left fun i hi => ?_
  have := hp i hi
  simp [List.getD_eq_getElem?_getD, List.getElem?_eq_getElem this]
theorem paired_pick {R : Addr → List V → Prop} {qs : List Addr} {rs : List (List V)} (h : Paired R qs rs) (p : Array Nat) (hp : ∀ i ∈ p.toList, i < qs.length) : Paired R (pick p qs 0) (pick p rs []) := by
  unfold pick
  have get : ∀ i, i < qs.length → R (qs.getD i 0) (rs.getD i []) := by
    clear hp
    induction h with
    | nil => exact fun i hi => absurd hi (Nat.not_lt_zero _)
    | cons a r ih =>
      intro i hi
      cases i with
      | zero => exact a
      | succ i => exact ih i (by simpa using hi)
  generalize p.toList = l at hp
  induction l with
  | nil => exact .nil
  | cons i l ih => exact .cons (get i (hp i List.mem_cons_self)) (ih fun j hj => hp j (List.mem_cons_of_mem _ hj))
theorem call_sortedP : CallR X (.builtin "sorted") (fun xs H Q => ∃ (a : Addr) (qs : List Addr) (ps : List (Str × Str)), xs = [.ref a] ∧ H a = some (.lst (qs.map V.ref)) ∧ Paired (fun q r => H q = some (.tup r)) qs (ps.map pairV) ∧ ps.length < 64 ∧
    ∀ (l : Addr) (qs' : List Addr) (ps' : List (Str × Str)), H l = none → ps'.Perm ps → Asc ltP ps' → Paired (fun q r => H q = some (.tup r)) qs' (ps'.map pairV) → Q (.ref l) (upd H l (.lst (qs'.map V.ref)))) := by
  intro pins s σ H xs us Q I r h
  obtain ⟨a, qs, ps, rfl, hA, hP, hz, q⟩ := h
  obtain ⟨u, rfl, rx⟩ := vals1 r
  cases rx
  obtain ⟨its, r', pl, hzl⟩ := I.list (.of hA)
  have ei := refV_of r'
  subst ei
  have hpr := pairs_at I hP
  have lq : qs.length = ps.length := by have := hpr.len; rwa [List.length_map] at this
  have lv : (qs.map Value.ref).length < 64 := by rw [List.length_map]; omega
  refine Calls.call_function_entry kind_sorted plain_sorted entry_sorted (args_sorted1 _) ?_
  unfold Builtin.«sorted»
  refine wpAny_bind (m := checkCount "sorted" 1 1 _) (wpAny_pure (wpAny_bind (collect_list pl.isList (wpAny_bind (wpAny_newList ?_ (by rw [sizeLine_eq]; omega))) (by rw [sizeLine_eq]; omega))))
  obtain ⟨g0, eg⟩ : ∃ g0, g0 = (s.heap.push (seqObj "list" #[] 0)).update s.heap.objs.size (Obj.mapSeq (· ++ (qs.map Value.ref).toArray)) := ⟨_, rfl⟩
  have gs : g0.objs.size = s.heap.objs.size + 1 := by rw [eg, Heap.size_update, size_push']
  have k0 : ∀ b o, s.heap.get? b = some o → (g0.push (seqObj "list" (qs.map Value.ref).toArray 0)).get? b = some o := fun b o z => by
    have hlt : b < s.heap.objs.size := Heap.lt_size z
    refine Heap.get?_push_of_some _ ?_
    rw [eg, Heap.get?_update_ne _ _ _ _ (Nat.ne_of_lt hlt)]
    exact Heap.get?_push_of_some _ z
  have hN : (g0.push (seqObj "list" (qs.map Value.ref).toArray 0)).get? (s.heap.objs.size + 1) = some (seqObj "list" (qs.map Value.ref).toArray 0) := by
    rw [← gs]; exact Heap.get?_push_size _ rfl
  show wpAny _ _ _ _ _ { s with heap := ((s.heap.push (seqObj "list" #[] 0)).update s.heap.objs.size (Obj.mapSeq (· ++ (qs.map Value.ref).toArray))).push (seqObj "list" (qs.map Value.ref).toArray 0) }
  rw [← eg, gs]
  refine wpAny_bind (wpAny_holding (wpAny_call_entry slot_list_sort ⟨_, hN, rfl⟩ entry_list_sort (sort_pairs hN (hpr.more k0) lv fun p g c b1 b2 b3 b4 => ⟨_, rfl, ?_⟩) (args_list_sort _)))
  refine wpAny_pure ⟨_, rfl, ?_⟩
  rw [List.length_map] at b1
  have hin : ∀ i ∈ p.toList, i < qs.length := fun i hi => by
    have := (Array.perm_iff_toList_perm.mp b1).mem_iff.mp hi
    simpa using this
  have pq := paired_pick hP p hin
  have er : pick p (ps.map pairV) [] = (pick p ps (Str.empty, Str.empty)).map pairV := pick_map pairV p ps _ _ (fun i hi => by rw [← lq]; exact hin i hi)
  rw [er] at pq
  have ev : pick p (qs.map Value.ref) .none = (pick p qs 0).map Value.ref := pick_map Value.ref p qs _ _ hin
  rw [ev] at b4
  have old : ∀ b o, s.heap.get? b = some o → g.get? b = some o := fun b o z => b3 b o (Nat.ne_of_lt (Nat.lt_succ_of_lt (Heap.lt_size z))) (k0 b o z)
  refine ⟨.ref (s.heap.objs.size + 1), _, I.laid (t' := s.toks) (h' := g) (o := .lst ((pick p qs 0).map V.ref)) old (Nat.le_succ _) ?_, rfl, q _ _ _ (I.hok.fresh (Nat.le_succ _)) (pick_perm _ (by rw [← lq]; exact b1)) b2 pq⟩
  refine ⟨?_, _, c, vals_refs _, b4⟩
  unfold pick
  rw [List.length_map, List.length_map, Array.length_toList, b1.size_eq]
  simp
  rw [sizeLine_eq]; omega
end
end L2
set_option Elab.async false
set_option linter.all false
set_option maxRecDepth 100000
set_option maxHeartbeats 4000000
namespace L2
open PySem PySem.Spec PyProof.Rows PySem.W
noncomputable def metS (val : Nat → Str) : Nat → List Str
  | 0 => []
  | i + 1 => if (metS val i).any (· == val i) then metS val i else metS val i ++ [val i]
theorem metS_any (val : Nat → Str) (i : Nat) (k : Str) : (metS val (i + 1)).any (· == k) = ((metS val i).any (· == k) || k == val i) := by
  show (if (metS val i).any (· == val i) then metS val i else metS val i ++ [val i]).any (· == k) = _
  by_cases h : (metS val i).any (· == val i) = true
  · rw [if_pos h]
    by_cases hk : k = val i
    · subst hk; rw [h]; simp
    · rw [show (k == val i) = false by simpa using hk, Bool.or_false]
  · rw [if_neg h, List.any_append]
    simp only [List.any_cons, List.any_nil, Bool.or_false]
    rw [Bool.beq_comm (a := k)]
theorem metS_len (val : Nat → Str) (i : Nat) : (metS val (i + 1)).length = if (metS val i).any (· == val i) then (metS val i).length else (metS val i).length + 1 := by
  show (if (metS val i).any (· == val i) then metS val i else metS val i ++ [val i]).length = _
  split <;> simp
theorem metS_le (val : Nat → Str) : ∀ i, (metS val i).length ≤ i
  | 0 => Nat.le_refl _
  | i + 1 => by
    rw [metS_len]
    have := metS_le val i
    split <;> omega
theorem metS_nodup {val : Nat → Str} : ∀ n, (∀ i j, i < n → j < n → val i = val j → i = j) → (metS val n).length = n ∧ ∀ k, (metS val n).any (· == k) = true → ∃ i, i < n ∧ val i = k
  | 0, _ => ⟨rfl, fun k h => by simp [metS] at h⟩
  | n + 1, h => by
    obtain ⟨a1, a2⟩ := metS_nodup n fun i j hi hj e => h i j (by omega) (by omega) e
    have no : (metS val n).any (· == val n) = false := by
      cases c : (metS val n).any (· == val n) with
      | false => rfl
      | true =>
        obtain ⟨i, hi, e⟩ := a2 _ c
        have := h i n (by omega) (by omega) e
        omega
    refine ⟨by rw [metS_len, no, a1]; rfl, fun k hk => ?_⟩
    rw [metS_any] at hk
    rcases Bool.or_eq_true_iff.mp hk with q | q
    · obtain ⟨i, hi, e⟩ := a2 k q
      exact ⟨i, by omega, e⟩
    · exact ⟨n, by omega, by simpa using (beq_iff_eq.mp q).symm⟩
section
variable {prog : Program} {w : World} {A : Around} {R : Result → Shared → Prop} {I : Addr} {fp wr : List Addr} {G : Array GenState → Array GenState → Prop} {n : Nat} {P : Nat → Value → Prop} {St : Nat → Shared → Prop}
noncomputable abbrev SetS (prog : Program) (w : World) (h : Heap) (S : Addr) (val : Nat → Str) (i : Nat) : Prop := h.SetOf (PySem.strKind prog w) S (fun k => (metS val i).any (· == k)) (metS val i).length
theorem setS_stay {h h' : Heap} {S : Addr} {val : Nat → Str} {i : Nat} (x : SetS prog w h S val i) (k : ∀ o, h.get? S = some o → h'.get? S = some o) : SetS prog w h' S val i := by
  obtain ⟨o, es, ep, tb, ho, q⟩ := x
  exact ⟨o, es, ep, tb, k o ho, q⟩
theorem set_turns (W : WalksS prog w A.in1 I fp wr G n P St) (S : Addr) (hSf : S ∉ fp) (val : Nat → Str) (hval : ∀ i v, P i v → ∃ t, v = .str (val i) t) (hb : n + 1 < scanBound) : ∀ (k i : Nat) (s : Shared), n - i = k → i ≤ n → St i s → SetS prog w s.heap S val i →
    (∀ s', Moved (S :: wr) G s s' → SetS prog w s'.heap S val n → R (.ok (.ret .none)) s') → codeAny (model prog w) A (.builtin "set.update.loop" ⟨[.ref S, .ref I], []⟩) R s := by
  have nw : S ∉ wr := fun z => hSf (W.sub _ z)
  have more : ∀ b ∈ wr, b ∈ S :: wr := fun b z => List.mem_cons_of_mem _ z
  intro k
  induction k with
  | zero =>
    intro i s hk hi st hS hR
    obtain rfl : i = n := by omega
    refine codeAny_builtin F.entry_set_update_loop ?_
    rw [Around.under_plainId F.plain_set_update_loop _]
    show wpAny _ A.in1 (pyNext (.ref I) >>= _) _ _ s
    exact wpAny_bind (W.done s _ _ st fun s' hm => wpAny_pure (hR s' (hm.mono more) (setS_stay hS fun o z => hm.heap S _ nw z)))
  | succ k ih =>
    intro i s hk hi st hS hR
    have lt : i < n := by omega
    refine codeAny_builtin F.entry_set_update_loop ?_
    rw [Around.under_plainId F.plain_set_update_loop _]
    show wpAny _ A.in1 (pyNext (.ref I) >>= _) _ _ s
    refine wpAny_bind (W.item i s _ _ lt st fun v s' hP st' hm => ?_)
    obtain ⟨t, rfl⟩ := hval i v hP
    have hS1 : SetS prog w s'.heap S val i := setS_stay hS fun o z => hm.heap S _ nw z
    have room := metS_le val i
    show wpAny _ A.in1 (holding [Value.str (val i) t] (setAdd S (.str (val i) t)) >>= _) _ _ s'
    refine wpAny_bind (wpAny_holding ?_)
    unfold setAdd
    refine wpAny_holding (wpAny_bind ((PySem.strKind prog w).pyHash (k := val i) (strKind_is _ _ _ _) (wpAny_setAddHashed_of (knd := PySem.strKind prog w) (s := { s' with toks := s'.toks + 1 }) (strKind_is _ _ _ _) rfl hS1 (by omega) fun h' hsb hS2 => ?_)))
    have hS3 : SetS prog w h' S val (i + 1) := SetOf_congr hS2 (fun k' => by rw [metS_any]; rfl) (by rw [metS_len])
    refine wpAny_pure ⟨plainId_quiet F.plain_set_update_loop _, ih (i + 1) _ (by omega) lt (W.frame _ s' _ _ st' (Nat.le_succ _) fun b hb o e => ?_) hS3 fun s2 hm2 hS4 => hR s2 (Moved.trans W.gtrans ((hm.mono more).then_heap (Nat.le_succ _) fun b o hb e => ?_) hm2) hS4⟩
    · rw [hsb.2 b (fun z : b = S => hSf (by rw [← z]; exact hb))]; exact e
    · rw [hsb.2 b (fun z : b = S => hb (by rw [z]; exact List.mem_cons_self))]; exact e
end
section
variable {prog : Program} {w : World} {A : Around} {E : Value → Shared → Prop} {s : Shared}
noncomputable abbrev nSet (led : Bool) : Obj := { cls := .type "set", dict := none, data := .set #[] 0 (.fresh 0 0 led) }
theorem set_texts {l : Addr} {items : Array Value} {val : Nat → Str} {Q : Value → Shared → Prop} (hh : A.handled = none) (hl : s.heap.IsList l items) (hv : ∀ (i : Nat) (v : Value), items[i]? = some v → ∃ t, v = .str (val i) t) (hb : items.size + 1 < scanBound)
    (h : ∀ (g : Heap) (tk : Nat), SetS prog w g s.heap.objs.size val items.size → (∀ b o, b < s.heap.objs.size → s.heap.get? b = some o → g.get? b = some o) → Q (.ref s.heap.objs.size) { s with heap := g, toks := tk }) :
    wpAny (model prog w) A (call (.type "set") [.ref l]) Q E s := by
  obtain ⟨c, tl, hmro⟩ := F.called_set.mro
  have hmade := F.called_set.made
  have hsub := F.called_set.sub
  refine wpAny_call (codeAny_of_tree ?_)
  show wpAny _ _ (callAny (.type "set") _) _ _ _
  refine wpAny_pure ⟨Code.quiet_builtin _ (by decide +kernel), codeAny_builtin F.entry_type_call ?_⟩
  rw [Around.under_plain (weight_type_call_type "set" [.ref l] []) rfl]
  have h1 := F.called_set.notType
  have h2 := F.called_set.canCreate
  have hct := F.typeCall_set_1 (.ref l)
  repeat (any_goals (first | assumption | wp_step))
  refine codeAny_mono (code_set_new_1 (.ref l) (E := E) (Q₁ := fun obj s1 => ∃ led : Bool, obj = .ref s.heap.objs.size ∧ s1 = { s with heap := s.heap.push (nSet led) }) fun led => ⟨led, rfl, rfl⟩) fun r s1 hr => ?_
  cases r with
  | error e => exact hr
  | ok fl =>
    cases fl with
    | ret obj =>
      obtain ⟨led, rfl, rfl⟩ := hr
      have gS : (s.heap.push (nSet led)).get? s.heap.objs.size = some (nSet led) := Heap.get?_push_size _ rfl
      have hT : Shared.TypeIs { s with heap := s.heap.push (nSet led) } (.ref s.heap.objs.size) "set" := ⟨_, gS, rfl⟩
      have hli := F.called_set.init.lookup
      have hbi := F.called_set.init.bind (.ref s.heap.objs.size)
      repeat (any_goals (first | assumption | wp_step))
      refine codeAny_mono (codeAny_call_builtin (R := wants (fun r s2 => r = .none ∧ ∃ g tk, s2 = { s with heap := g, toks := tk } ∧ SetS prog w g s.heap.objs.size val items.size ∧ (∀ b o, b < s.heap.objs.size → s.heap.get? b = some o → g.get? b = some o)) E)
        F.called_set.init.plain F.entry_set_init (check_set_init_1 hT ?_)) fun r2 s2 hr2 => ?_
      · obtain ⟨⟨ocls, odict, odata, oslots⟩, hol, hcl, nl, hdl⟩ := hl
        simp only at hcl hdl
        subst hcl; subst hdl
        have hol' : (s.heap.push (nSet led)).get? l = some { cls := .type "list", dict := odict, data := .seq items nl, slots := oslots } := Heap.get?_push_of_some _ hol
        have hsls := F.sub_list_set
        have hslf := F.sub_list_frozenset
        have hne : (Value.type "list" == Value.type "dict") = false := by decide
        have hl1 : (s.heap.push (nSet led)).IsList l items := ⟨_, hol', rfl, nl, rfl⟩
        unfold Builtin.«set.__init__» noKeywords Builtin.Frozenset.updateFrom
        generalize hPI : pyIter = PI
        wp_walk
        subst hPI
        refine wpAny_pyIter_list hl1 (wpAny_bind (wpAny_runValue ?_))
        have hlS : l < s.heap.objs.size := Heap.lt_size hol
        have sz : (s.heap.push (nSet led)).objs.size = s.heap.objs.size + 1 := Heap.size_push _ _
        refine set_turns ((Walks.list (A := A.in1.in1.in1) (by simp [hh]) _ l (by rw [sz]; exact Nat.ne_of_lt (Nat.lt_succ_of_lt hlS)) items).toS) s.heap.objs.size (by rw [sz]; simp; exact Nat.ne_of_gt hlS) val hv hb (items.size - 0) 0 _ (by omega) (Nat.zero_le _) ⟨⟨_, Heap.get?_push_size _ rfl, rfl, rfl⟩, (hl1.push _)⟩ ?z0 ?zR
        case z0 =>
          exact SetOf_congr ((setObjOf_fresh (knd := PySem.strKind prog w) led).setOf (Heap.get?_push_of_some _ gS) (by unfold scanBound; omega)) (fun _ => rfl) rfl
        case zR =>
          intro s' hm hS'
          obtain ⟨g, g', d', tk', os'⟩ := s'
          have eg : g' = s.gens := hm.gens
          have ed : d' = s.drawn := hm.drawn
          have eo : os' = s.os := hm.os
          subst eg; subst ed; subst eo
          show wpAny _ _ _ _ _ _
          refine wpAny_pure ?_
          show wpAny _ _ (ret Value.none) _ _ _
          refine wpAny_pure ⟨rfl, g, tk', rfl, hS', fun b o hb e => hm.heap b o ?_ (Heap.get?_push_of_some _ (Heap.get?_push_of_some _ e))⟩
          rw [sz]; simp; exact ⟨Nat.ne_of_lt hb, Nat.ne_of_lt (Nat.lt_succ_of_lt hb)⟩
      · cases r2 with
        | error e => exact hr2
        | ok fl2 =>
          cases fl2 with
          | ret r =>
            obtain ⟨rfl, g, tk, rfl, hS', hk'⟩ := hr2
            repeat (any_goals (first | assumption | wp_step))
            exact h _ _ hS' hk'
          | _ => exact hr2.elim
    | _ => exact hr.elim
end
end L2
set_option Elab.async false
set_option linter.all false
set_option maxRecDepth 100000
set_option maxHeartbeats 4000000
namespace L2
open PySem PySem.Spec PyProof.Rows PySem.W
noncomputable def manyS (zs : List Str) : Nat := (metS (fun i => zs.getD i Str.empty) zs.length).length
theorem manyS_nodup {zs : List Str} (h : zs.Nodup) : manyS zs = zs.length := by
  refine (metS_nodup zs.length fun i j hi hj q => ?_).1
  simp only [List.getD_eq_getElem?_getD, List.getElem?_eq_getElem hi, List.getElem?_eq_getElem hj, Option.getD_some] at q
  exact (List.getElem_inj h).mp q
noncomputable def setO (P : Program) (w : World) (a : Addr) (zs : List Str) : HO := .ext fun h => SetS P w h a (fun i => zs.getD i Str.empty) zs.length
section
variable {X : Cx}
theorem strs_get {zs : List Str} {its : List Value} (r : StrsAre its zs) : ∀ (i : Nat) (v : Value), its.toArray[i]? = some v → ∃ t, v = .str (zs.getD i Str.empty) t := by
  induction r with
  | nil => intro i v h; simp at h
  | cons x t r ih =>
    intro i v h
    cases i with
    | zero => simp at h; exact ⟨t, h.symm⟩
    | succ i => simp at h; exact ih i v (by simpa using h)
theorem call_setS (hc : X.calm = true) : CallR X (.type "set") (fun xs H Q => ∃ (a : Addr) (zs : List Str), xs = [.ref a] ∧ H a = some (.lst (zs.map V.str)) ∧ zs.length < 1000 ∧ ∀ p, H p = none → Q (.ref p) (upd H p (setO X.prog X.w p zs))) := by
  intro pins s σ H xs us Q I r h
  obtain ⟨a, zs, rfl, hA, hz, q⟩ := h
  obtain ⟨u, rfl, rx⟩ := vals1 r
  cases rx
  obtain ⟨its, r', pl, hzl⟩ := I.list (.of hA)
  have hst := strs_of r'
  have hl : its.length = zs.length := by have := r'.length; rw [List.length_map] at this; exact this.symm
  have hsz : its.toArray.size = zs.length := by rw [List.size_toArray]; exact hl
  refine set_texts (I.ok.hd hc) pl.isList (strs_get hst) (by rw [hsz]; unfold scanBound; omega) fun g tk hS old => ?_
  rw [hsz] at hS
  have k : ∀ b o, s.heap.get? b = some o → g.get? b = some o := fun b o z => old b o (Heap.lt_size z) z
  refine ⟨.ref s.heap.objs.size, _, I.laid (t' := tk) (h' := g) (o := setO X.prog X.w s.heap.objs.size zs) k (Nat.le_refl _) ⟨hS, ?_, fun h1 h2 x st => setS_stay x st⟩, rfl, q _ (I.hok.fresh (Nat.le_refl _))⟩
  obtain ⟨o, _, _, _, ho, _⟩ := hS
  exact ⟨o, ho⟩
theorem call_lenSet : CallR X (.builtin "len") (fun xs H Q => ∃ (p : Addr) (zs : List Str), xs = [.ref p] ∧ H p = some (setO X.prog X.w p zs) ∧ zs.length < 1000 ∧ Q (.int (manyS zs)) H) := by
  intro pins s σ H xs us Q I r h
  obtain ⟨p, zs, rfl, hP, hz, q⟩ := h
  obtain ⟨u, rfl, rx⟩ := vals1 r
  cases rx
  obtain ⟨hS, _, _⟩ := I.hok p _ hP
  obtain ⟨o, es, ep, t, ho, hex, hd, hel, hmem, hb, hf, hn⟩ := hS
  have le := metS_le (fun i => zs.getD i Str.empty) zs.length
  have en : es.size = manyS zs := hn
  have lm : manyS zs ≤ zs.length := le
  refine call_len_set ho hex hd hf (by rw [en]; omega) ⟨.int (manyS zs), H, I.tok _, ⟨s.toks + 1, by rw [en]⟩, q⟩
noncomputable def minS (a b : Str) : Str := if ltS b a then b else a
noncomputable def maxS (a b : Str) : Str := if ltS a b then b else a
theorem two_at {a b : Str} {t u : Tok} (i : Nat) (v : Value) (h : #[Value.str a t, .str b u][i]? = some v) : (i = 0 ∧ v = .str a t) ∨ (i = 1 ∧ v = .str b u) := by
  cases i with
  | zero => simp at h; exact .inl ⟨rfl, h.symm⟩
  | succ i => cases i with
    | zero => simp at h; exact .inr ⟨rfl, h.symm⟩
    | succ i => simp at h
section
variable {prog : Program} {w : World} {A : Around} {E : Value → Shared → Prop} {s : Shared}
noncomputable abbrev wS (a b : Str) (i : Nat) : Str := if i = 0 then a else b
theorem cmp_lt {a b : Str} {t u : Tok} : CmpOf prog w A .Lt (fun i v => #[Value.str a t, .str b u][i]? = some v) (fun i j => ltS (wS a b i) (wS a b j)) := fun i j vi vj s Q E hi hj q => by
  rcases two_at i vi hi with ⟨rfl, rfl⟩ | ⟨rfl, rfl⟩ <;> rcases two_at j vj hj with ⟨rfl, rfl⟩ | ⟨rfl, rfl⟩ <;> exact PyProof.Rows.lt_str q
theorem cmp_gt {a b : Str} {t u : Tok} : CmpOf prog w A .Gt (fun i v => #[Value.str a t, .str b u][i]? = some v) (fun i j => ltS (wS a b j) (wS a b i)) := fun i j vi vj s Q E hi hj q => by
  rcases two_at i vi hi with ⟨rfl, rfl⟩ | ⟨rfl, rfl⟩ <;> rcases two_at j vj hj with ⟨rfl, rfl⟩ | ⟨rfl, rfl⟩ <;> exact PySem.P.gt_str q
theorem walk_two {op : CmpOp} {bt : Nat → Nat → Bool} {x : Addr} {a b z : Str} {t u : Tok} {Q : Value → Shared → Prop} (hh : A.handled = none) (hT : s.heap.IsTuple x #[.str a t, .str b u]) (hc : CmpOf prog w A op (fun i v => #[Value.str a t, .str b u][i]? = some v) bt)
    (hz : ∀ v, #[Value.str a t, .str b u][argBest bt 1]? = some v → ∃ t, v = .str z t) (h : ∀ h' tk t, (∀ c o, s.heap.get? c = some o → h'.get? c = some o) → Q (.str z t) { s with heap := h', toks := tk }) :
    wpAny (model prog w) A (pyIter (.ref x)) (fun it s2 => ∃ I fp wr n P St bt, it = .ref I ∧ Walks prog w A I fp wr n P St ∧ St 0 s2.heap ∧ (∀ b ∈ fp, b < s2.heap.objs.size) ∧ 0 < n ∧ CmpOf prog w A op P bt ∧
      ∀ v h' tk, P (argBest bt (n - 1)) v → (∀ b o, b ∉ wr → s2.heap.get? b = some o → h'.get? b = some o) → Q v { s2 with heap := h', toks := tk }) E s := by
  have hx : x < s.heap.objs.size := by obtain ⟨o, ho, _⟩ := hT; exact Heap.lt_size ho
  refine wpAny_pyIter_tuple hT ⟨_, [_, x], [_], _, _, _, bt, rfl, Walks.tuple hh _ x (Nat.ne_of_lt hx) #[.str a t, .str b u], ⟨⟨_, Heap.get?_push_size _ rfl, rfl, rfl⟩, hT.push _⟩, fun c hc => ?_, Nat.zero_lt_succ _, hc, fun v h' tk hP hk => ?_⟩
  · show c < (s.heap.push _).objs.size
    rw [Heap.size_push]
    simp only [List.mem_cons, List.not_mem_nil, or_false] at hc
    rcases hc with rfl | rfl
    · exact Nat.lt_succ_self _
    · exact Nat.lt_succ_of_lt hx
  · obtain ⟨t', rfl⟩ := hz v hP
    refine h h' tk t' fun c o e => hk c o (fun hm => ?_) (Heap.get?_push_of_some _ e)
    simp only [List.mem_cons, List.not_mem_nil, or_false] at hm
    exact absurd (Heap.lt_size e) (by rw [hm]; exact Nat.lt_irrefl _)
end
theorem best_min {a b : Str} {t u : Tok} (v : Value) (h : #[Value.str a t, .str b u][argBest (fun i j => ltS (wS a b i) (wS a b j)) 1]? = some v) : ∃ t, v = .str (minS a b) t := by
  have e : argBest (fun i j => ltS (wS a b i) (wS a b j)) 1 = if ltS b a then 1 else 0 := rfl
  rw [e] at h
  unfold minS
  cases c : ltS b a with
  | true => rw [c] at h; simp at h; exact ⟨u, by simp [← h]⟩
  | false => rw [c] at h; simp at h; exact ⟨t, by simp [← h]⟩
theorem best_max {a b : Str} {t u : Tok} (v : Value) (h : #[Value.str a t, .str b u][argBest (fun i j => ltS (wS a b j) (wS a b i)) 1]? = some v) : ∃ t, v = .str (maxS a b) t := by
  have e : argBest (fun i j => ltS (wS a b j) (wS a b i)) 1 = if ltS a b then 1 else 0 := rfl
  rw [e] at h
  unfold maxS
  cases c : ltS a b with
  | true => rw [c] at h; simp at h; exact ⟨u, by simp [← h]⟩
  | false => rw [c] at h; simp at h; exact ⟨t, by simp [← h]⟩
theorem tup_two {pins : List (Addr × Obj)} {σ : St} {H : Hp} {s : Shared} (I : Inv X pins σ H s) {x : Addr} {a b : Str} (h : H x = some (.tup [.str a, .str b])) : ∃ t u, s.heap.IsTuple x #[.str a t, .str b u] := by
  obtain ⟨its, r, pl, _⟩ := I.tuple (.of h)
  cases r with
  | cons r1 r =>
  cases r with
  | cons r2 r =>
  cases r
  obtain ⟨t1, rfl⟩ := r1
  obtain ⟨t2, rfl⟩ := r2
  exact ⟨t1, t2, pl⟩
theorem call_minT (hc : X.calm = true) : CallR X (.builtin "min") (fun xs H Q => ∃ (x : Addr) (a b : Str), xs = [.ref x] ∧ H x = some (.tup [.str a, .str b]) ∧ Q (.str (minS a b)) H) := by
  intro pins s σ H xs us Q I r h
  obtain ⟨x, a, b, rfl, hx, q⟩ := h
  obtain ⟨u, rfl, rx⟩ := vals1 r
  cases rx
  obtain ⟨t, u, hT⟩ := tup_two I hx
  exact call_min_walk (walk_two (I.ok.hd hc) hT cmp_lt best_min fun h' tk t' k => ⟨.str (minS a b), H, I.kept k, ⟨t', rfl⟩, q⟩)
theorem call_maxT (hc : X.calm = true) : CallR X (.builtin "max") (fun xs H Q => ∃ (x : Addr) (a b : Str), xs = [.ref x] ∧ H x = some (.tup [.str a, .str b]) ∧ Q (.str (maxS a b)) H) := by
  intro pins s σ H xs us Q I r h
  obtain ⟨x, a, b, rfl, hx, q⟩ := h
  obtain ⟨u, rfl, rx⟩ := vals1 r
  cases rx
  obtain ⟨t, u, hT⟩ := tup_two I hx
  exact call_max_walk (walk_two (I.ok.hd hc) hT cmp_gt best_max fun h' tk t' k => ⟨.str (maxS a b), H, I.kept k, ⟨t', rfl⟩, q⟩)
end
end L2
set_option Elab.async false
set_option linter.all false
set_option maxRecDepth 100000
set_option maxHeartbeats 4000000
namespace L2
open PySem PySem.Spec PyProof.Rows
theorem dc_loop {prog : Program} {w : World} {A : Around} {R : Result → Shared → Prop} {s : Shared} {kx vx target iter : Expr} {ifs : List Expr} {scope : Scope} {pos : Pos} {it : Value} {D : Addr} {env : Env} (J : Nat → Shared → Prop)
    (turn : ∀ n s, J n s → wpAny (model prog w) A (pyNext it) (fun r s1 => match r with
      | none => R (.ok .next) s1
      | some v => wpAny (model prog w) A (letOwnedTupleGo target it v) (fun _ s1' => wpAny (model prog w) A (assign target env v) (fun _ s2 =>
          wpAny (model prog w) A (forIn ifs true fun c r => if r = true then do let ok ← isTrue c env (eval c env); pure (ForInStep.yield ok) else pure (ForInStep.yield r)) (fun ok s3 =>
            if ok = true then wpAny (model prog w) A (eval kx env) (fun y s4 => wpAny (model prog w) A (eval vx env) (fun x s5 =>
              wpAny (model prog w) A (dictSet D y x) (fun _ s6 => ∃ m, m < n ∧ J m s6) (fun _ _ => False) s5) (fun _ _ => False) s4) (fun _ _ => False) s3
            else ∃ m, m < n ∧ J m s3) (fun _ _ => False) s2) (fun _ _ => False) s1') (fun _ _ => False) s1) (fun _ _ => False) s)
    (n : Nat) (h : J n s) : codeAny (model prog w) A (.compLoop (.DictComp kx vx [⟨target, iter, ifs, 0⟩] scope pos) 0 it (.ref D) env) R s := by
  refine codeAny_loop rfl J (fun n s hJ => ?_) n h
  have nof : ∀ (e : Value) (s' : Shared), False → notedBy (model prog w) A env (fun e s' => R (.error e) s') e s' := fun _ _ f => f.elim
  show wpAny (model prog w) A ((compTurn (.DictComp kx vx [⟨target, iter, ifs, 0⟩] scope pos) 0 it (.ref D) env).onRaise (fun x => do noteFrame x env; theTreesLotGoes x)) _ _ s
  refine wpAny_noted ?_
  rw [compTurn_dict]
  refine wpAny_bind (wpAny_standAt (wpAny_bind (wpAny_mono (turn n s hJ) (fun r s1 h1 => ?_) nof)))
  cases r with
  | none => exact wpAny_pure h1
  | some v =>
    refine wpAny_bind (wpAny_mono h1 (fun _ s1' h1' => ?_) nof)
    refine wpAny_bind (wpAny_mono h1' (fun _ s2 h2 => ?_) nof)
    refine wpAny_bind (wpAny_mono h2 (fun ok s3 h3 => ?_) nof)
    cases ok with
    | false => exact wpAny_pure ⟨rfl, h3⟩
    | true =>
      refine wpAny_bind (wpAny_bind (wpAny_mono h3 (fun y s4 h4 => ?_) nof))
      refine wpAny_bind (wpAny_holding (wpAny_mono h4 (fun x s5 h5 => ?_) nof))
      exact wpAny_bind (wpAny_standAt (wpAny_holding (wpAny_mono h5 (fun _ s6 h6 => wpAny_pure ⟨rfl, h6⟩) nof)))
noncomputable def DCW (J : It) (xs : List Str) (ix : List Nat) (g : TG) (tt : TT) (ty te : TE) (σ : St) (H1 : Hp) (acc : Addr) (Q : VK) : Prop :=
  ∃ W : Nat → Nat → List (Key × V) → St → Hp → Prop, (∃ m, W 0 m [] (stC xs ix σ) (upd H1 acc (.dK []))) ∧
    ∀ i m ys τ H, W i m ys τ H → H acc = some (.dK ys) ∧ ys.length < sizeLine ∧
      ((J.stop i H ∧ Q (.ref acc) H) ∨ (J.go i H ∧ ∃ N : List (Key × V) → St → Hp → Prop, (∀ ys' τ' H', N ys' τ' H' → ∃ m', m' < m ∧ W (i + 1) m' ys' τ' H') ∧
        ∀ x H', J.yld i H x H' → g x τ H' fun τ2 H2 => tt τ2 H2 fun b H3 =>
        if b = true then ty τ2 H3 fun z H4 => te τ2 H4 fun y H5 => ∃ k, z = kV k ∧ H5 acc = some (.dK ys) ∧ N (putK ys k y) τ2 (upd H5 acc (.dK (putK ys k y))) else N ys τ2 H3))
noncomputable def tDC (xs : List Str) (ix : List Nat) (wi : TI) (g : TG) (tt : TT) (ty te : TE) : TE := fun σ H Q => wi σ H fun J H1 => ∀ acc, H1 acc = none → DCW J xs ix g tt ty te σ H1 acc Q
theorem d_dictSet {X : Cx} {pins : List (Addr × Obj)} {σ : St} {H : Hp} {s : Shared} {A : Around} {E : Value → Shared → Prop} {a : Addr} {k : Key} {v : V} {u r : Value} {kvs : List (Key × V)} {Q : Unit → Shared → Prop} (I : Inv X pins σ H s) (e : H a = some (.dK kvs)) (l : kvs.length < sizeLine) (ry : RelV (kV k) u) (rv : RelV v r)
    (h : ∀ s', Inv X pins σ (upd H a (.dK (putK kvs k v))) s' → Q () s') : wpAny (model X.prog X.w) A (dictSet a u r) Q E s := by
  obtain ⟨z, hd, vs, rel, dd⟩ := dk_of I.hok e
  have hz : vs.length ≤ sizeLine := by rw [← rel.length]; exact z
  have hl : (putK kvs k v).length ≤ sizeLine := by have := length_putK kvs k v; omega
  refine wpAny_dictSet_pairs (hsz := hz) (kV_is ry) dd fun h' dd' hs => h _ (d_write I (by rw [e]; exact True.intro) hs ?_ (dk_new hl hd (rel.put k rv) dd'))
  obtain ⟨q, _, _, hq, _⟩ := dd'
  exact ⟨q, hq⟩
theorem dc_coreG {Reg : Cx → Prop} {X : Cx} {xs : List Str} {ix : List Nat} {scope : Scope} {kx vx tg iter : Expr} {ifs : List Expr} {pos : Pos} {wi : TI} {g : TG} {tt : TT} {ty te : TE}
    (S : CompScope X xs ix scope) (hreg : ∀ Y : Cx, Y.K = X.K → Y.calm = X.calm → Y.A.handled = X.A.handled → Reg Y) (hi : PIG Reg X tg iter wi)
    (hg : ∀ C fp s H, PG (cxC X xs ix scope C fp s H) tg g) (ht : ∀ C fp s H, PTs (cxC X xs ix scope C fp s H) ifs tt) (hy : ∀ C fp s H, PE (cxC X xs ix scope C fp s H) kx ty) (he : ∀ C fp s H, PE (cxC X xs ix scope C fp s H) vx te)
    {pins : List (Addr × Obj)} {s : Shared} {σ : St} {H : Hp} {Q : VK} (I : Inv X pins σ H s) (h : tDC xs ix wi g tt ty te σ H Q) {use : Option (Value → Sem Unit)} {R : Value → Shared → Prop}
    (fin : ∀ (acc C : Addr) (H' : Hp) (s' : Shared) (m : Str → Option Value), Q (.ref acc) H' → s'.heap.Ns C m → (∀ h', Heap.SameBut C s'.heap h' → ∀ tk, Inv X pins σ H' { s' with heap := h', toks := tk }) → (X.s₀.heap.objs.size ≤ C ∧ C ≠ X.env.locals ∧ (∀ x c, X.env.cells.lookup x = some c → c ≠ C) ∧ (∀ p ∈ X.pn ++ pins, p.1 ≠ C) ∧ H' C = none) → compPost (model X.prog X.w) X.A X.xe use R (.ref acc) C (.ok .next) s') :
    wpAny (model X.prog X.w) X.A (eval iter X.env) (fun x s₁ => wpAny (model X.prog X.w) X.A (pyIter x) (fun it s₂ => wpAny (model X.prog X.w) X.A newDict (fun acc s₃ =>
      wpAny (model X.prog X.w) X.A (newFunctionEnv scope X.env.globals (clF X.env scope.names []) [] X.env.qual none .none (some X.env)) (fun cenv s₄ =>
        codeAny (model X.prog X.w) X.A (.compStart (.DictComp kx vx [⟨tg, iter, ifs, 0⟩] scope pos) 0 it acc { cenv with scope := relabel scope X.env }) (compPost (model X.prog X.w) X.A X.xe use R acc cenv.locals) s₄) X.xe s₃) X.xe s₂) X.xe s₁) X.xe s := by
  refine thn (hi pins s σ H _ I h) fun v s1 h1 => thn h1 fun itv s2 h2 => ?_
  obtain ⟨it, fp, tn, J, H2, rfl, I2, T, st2, f2, q⟩ := h2
  refine wpAny_newObj_type ?_
  have I3 : Inv X pins σ (upd H2 s2.heap.objs.size (.dK [])) { s2 with heap := s2.heap.push { cls := .type "dict", data := .dict #[] }, toks := s2.toks } := I2.laid (a := s2.heap.objs.size) (o := .dK []) (t' := s2.toks) (fun _ _ q => Heap.get?_push_of_some _ q) (Nat.le_refl _) (dk_empty s2.heap I2.big)
  obtain ⟨W, ⟨m0, w0⟩, turn⟩ := q s2.heap.objs.size I2.fresh
  have objs2 := T.obj 0 _ st2
  have neacc : ∀ b ∈ fp, b ≠ s2.heap.objs.size := fun b hb z => by
    obtain ⟨o, ho, _⟩ := objs2 b hb
    exact Nat.lt_irrefl _ (Nat.lt_of_lt_of_eq (Heap.lt_size ho) z.symm)
  generalize hacc : s2.heap.objs.size = acc at *
  generalize hs3 : ({ s2 with heap := s2.heap.push { cls := .type "dict", data := .dict #[] } } : Shared) = s3
  have I3 : Inv X pins σ (upd H2 acc (.dK [])) s3 := by rw [← hs3]; exact I3
  have k3 : ∀ b o, s2.heap.get? b = some o → s3.heap.get? b = some o := fun b o e => by rw [← hs3]; exact Heap.get?_push_of_some _ e
  have f3 : ∀ b ∈ fp, FpOk X pins (upd H2 acc (.dK [])) b := fun b hb => ⟨by rw [upd_ne (neacc b hb)]; exact (f2 b hb).1, (f2 b hb).2⟩
  have o3 : ∀ b ∈ fp, ∃ o, s3.heap.get? b = some o := fun b hb => let ⟨o, ho, _⟩ := objs2 b hb; ⟨o, k3 b o ho⟩
  have st3 : tn 0 s3.heap := T.keep _ _ _ st2 fun b _ o e => k3 b o e
  refine wpAny_newFunctionEnv S.nocell (by intro y hy; simp at hy) (fun h1 hns1 hsb1 => ?_) S.kind
  have keep1 : ∀ b o, s3.heap.get? b = some o → h1.get? b = some o := fun b o e => hsb1.extBut b o (Nat.ne_of_lt (Heap.lt_size e)) (Heap.get?_push_of_some _ e)
  generalize hs4 : ({ s3 with heap := h1, toks := s3.toks + ([] : List (Str × Value)).length } : Shared) = s4
  have I4 : Inv (cxC X xs ix scope s3.heap.objs.size fp s3 (upd H2 acc (.dK []))) [] (stC xs ix σ) (upd H2 acc (.dK [])) s4 := block_start S I3 f3 o3 hns1 keep1 hs4.symm
  have st4 : tn 0 s4.heap := T.keep _ _ _ st3 fun b _ o e => by rw [← hs4]; exact keep1 b o e
  generalize hX' : cxC X xs ix scope s3.heap.objs.size fp s3 (upd H2 acc (.dK [])) = X' at *
  have hg := hg s3.heap.objs.size fp s3 (upd H2 acc (.dK []))
  have ht := ht s3.heap.objs.size fp s3 (upd H2 acc (.dK []))
  have he := he s3.heap.objs.size fp s3 (upd H2 acc (.dK []))
  have hy := hy s3.heap.objs.size fp s3 (upd H2 acc (.dK []))
  rw [hX'] at hg ht he hy
  have eP : X'.prog = X.prog := by rw [← hX']; rfl
  have ew : X'.w = X.w := by rw [← hX']; rfl
  have eK : X'.K = X.K := by rw [← hX']; rfl
  have eA : X'.A = X.A := by rw [← hX']; rfl
  have ec : Reg X' := hreg X' eK (by rw [← hX']; rfl) (by rw [← hX']; rfl)
  have ex : X'.xe = fun _ _ => False := by rw [← hX']; rfl
  have eenv : X'.env = compEnvC scope (clF X.env scope.names []) s3.heap.objs.size X.env := by rw [← hX']; rfl
  have eex : X'.ex = fp := by rw [← hX']; rfl
  have efs : X'.fs = frs X.stack := by rw [← hX']; rfl
  have epn : X'.pn = [] := by rw [← hX']; rfl
  have eH0 : X'.H₀ = upd H2 acc (.dK []) := by rw [← hX']; rfl
  have es0 : X'.s₀ = s3 := by rw [← hX']; rfl
  have eloc : X'.env.locals = s3.heap.objs.size := by rw [eenv]; rfl
  have stat : ∀ {H' : Hp}, (∀ b ∈ fp, H' b = none) → ∀ b ∈ fp, FpOk X' [] H' b := fun {H'} hn b hb => by
    refine ⟨hn b hb, ?_, ?_, .inl (by rw [eex]; exact hb), ?_, ?_⟩
    · rw [eloc]
      intro z
      obtain ⟨o, ho⟩ := o3 b hb
      exact Nat.lt_irrefl _ (Nat.lt_of_lt_of_eq (Heap.lt_size ho) z.symm)
    · exact I4.ok.exfs b (by rw [eex]; exact hb)
    · exact (I4.ok.exf b (by rw [eex]; exact hb)).2
    · rw [epn]; intro p hp; exact absurd hp (by simp)
  have loop : codeAny (model X.prog X.w) X.A (.compLoop (.DictComp kx vx [⟨tg, iter, ifs, 0⟩] scope pos) 0 (.ref it) (.ref acc) X'.env) (compPost (model X.prog X.w) X.A X.xe use R (.ref acc) s3.heap.objs.size) s4 := by
    refine dc_loop (fun n s' => ∃ i ys τ H', Inv X' [] τ H' s' ∧ tn i s'.heap ∧ (∀ b ∈ fp, H' b = none) ∧ W i n ys τ H') ?_ m0 ⟨0, [], _, _, I4, st4, fun b hb => (f3 b hb).1, w0⟩
    rintro n s5 ⟨i, ys, τ, H5, I5, st5, fr5, w5⟩
    obtain ⟨ha5, hz5, way⟩ := turn i n ys τ H5 w5
    rcases way with ⟨stop, qn⟩ | ⟨go, N, hN, step⟩
    · have d := T.done X' eP ew ec i [] s5 τ H5 (fun _ _ => False) I5 (stat fr5) st5 stop
      rw [eA] at d
      refine thn d fun r s6 hz56 => ?_
      obtain ⟨hr, I6⟩ := hz56
      subst hr
      obtain ⟨m, hn6, _⟩ := id I6.loc
      rw [eloc] at hn6
      refine fin acc s3.heap.objs.size H5 s6 m qn hn6 (fun h' hsb tk => ?_) ⟨I3.sz, Ne.symm (Nat.ne_of_lt I3.lt), fun x c e z => by
        obtain ⟨v, oc, hoc, _⟩ := I3.cell x c e
        exact Nat.lt_irrefl _ (Nat.lt_of_lt_of_eq (Heap.lt_size hoc) z.symm), fun p hp z => Nat.lt_irrefl _ (Nat.lt_of_lt_of_eq (Heap.lt_size (I3.pin p hp).1) z.symm), by have := I6.free; rw [eloc] at this; exact this⟩
      have same : ∀ b, b ≠ s3.heap.objs.size → h'.get? b = s6.heap.get? b := fun b hb => hsb.2 b hb
      have ub := I6.base
      rw [efs, eex, eH0, es0] at ub
      have ne3 : ∀ b o, s3.heap.get? b = some o → b ≠ s3.heap.objs.size := fun b o e => Nat.ne_of_lt (Heap.lt_size e)
      have u : Un (frs X.stack) fp (upd H2 acc (.dK [])) H5 s3.heap h' :=
        ⟨fun b o e n1 n2 n3 => (same b (ne3 b o e)).trans (ub.keep b o e n1 n2 n3), fun b o e n1 n2 n3 => by
            obtain ⟨sl, z⟩ := ub.slot b o e n1 n2 n3
            exact ⟨sl, (same b (ne3 b o e)).trans z⟩, ub.free, fun b o e n3 => by
            obtain ⟨o', z⟩ := ub.there b o e n3
            exact ⟨o', (same b (ne3 b o e)).trans z⟩, ub.tups, ub.frzs, ub.tbls⟩
      have fC : H5 s3.heap.objs.size = none := by have := I6.free; rw [eloc] at this; exact this
      have hok : HOk X.prog X.w H5 h' := fun b o e => by
        have z := I6.hok b o e
        rw [eP, ew] at z
        refine z.stay (fun c u hc q => (same c ?_).trans q) (fun _ q => q) fun _ _ q => q
        intro zc
        rcases hc with q1 | q1
        · rw [← q1, zc, fC] at e; cases e
        · rw [zc, fC] at q1; cases q1
      have hch : ∀ b ∈ fp, (b ∈ X.ex ∨ X.s₀.heap.objs.size ≤ b) ∧ b ≠ X.env.locals ∧ (∀ x c, X.env.cells.lookup x = some c → c ≠ b) ∧ ∀ p ∈ X.pn ++ pins, p.1 ≠ b := fun b hb => by
        obtain ⟨_, f1, _, g3, g4, g5⟩ := f3 b hb
        exact ⟨g3, f1, g4, g5⟩
      have ho : s6.os = s3.os := by have := I6.os; rw [es0] at this; exact this
      exact I3.call' (s' := { s6 with heap := h', toks := tk }) (ch := fp) ho u hok I6.bare hch
    · have d := T.item X' eP ew ec i [] s5 τ H5 (fun _ _ => False) I5 (stat fr5) st5 go
      rw [eA] at d
      refine thn d fun r s6 hz57 => ?_
      obtain ⟨u, hr, h6⟩ := hz57
      subst hr
      refine thn h6 fun _ s7 hz58 => ?_
      obtain ⟨x, H7, I7, r7, y7, st7, fr7⟩ := hz58
      have I7' := I7.pinned (stat fr7) (T.obj _ _ st7)
      have dg := hg _ s7 τ H7 x u _ I7' r7 (step x H7 y7)
      rw [eP, ew, eA, ex] at dg
      refine thn dg fun _ s8 hz59 => ?_
      obtain ⟨τ8, H8, I8, q8⟩ := hz59
      have dt := ht _ s8 τ8 H8 _ I8 q8
      rw [eP, ew, eA, ex] at dt
      refine thn dt fun ok s9 hz60 => ?_
      obtain ⟨H9, I9, q9⟩ := hz60
      have again : ∀ {τ' : St} {H' : Hp} {s' : Shared}, Inv X' ([] ++ pinsAt fp s7.heap) τ' H' s' → Inv X' [] τ' H' s' ∧ tn (i + 1) s'.heap ∧ ∀ b ∈ fp, H' b = none := fun {τ' H' s'} Ie => by
        refine ⟨Ie.unpinned, T.keep _ _ _ st7 fun b hb o e => (Ie.pin (b, o) (List.mem_append_right _ (List.mem_append_right _ (mem_pinsAt hb e)))).1, fun b hb => ?_⟩
        obtain ⟨o, e, _⟩ := T.obj _ _ st7 b hb
        exact (Ie.pin (b, o) (List.mem_append_right _ (List.mem_append_right _ (mem_pinsAt hb e)))).2.1
      cases ok with
      | false =>
        rw [if_neg Bool.false_ne_true] at q9 ⊢
        obtain ⟨m', hm, w9⟩ := hN _ _ _ q9
        obtain ⟨z1, z2, z3⟩ := again I9
        exact ⟨m', hm, i + 1, ys, τ8, H9, z1, z2, z3, w9⟩
      | true =>
        rw [if_pos rfl] at q9 ⊢
        have dy := hy _ s9 τ8 H9 _ I9 q9
        rw [eP, ew, eA, ex] at dy
        refine thn dy fun kv s10 hz61 => ?_
        obtain ⟨z, H10, I10, r10, q10⟩ := hz61
        have de := he _ s10 τ8 H10 _ I10 q10
        rw [eP, ew, eA, ex] at de
        refine thn de fun yv s11 hz62 => ?_
        obtain ⟨y, H11, I11, r11, k, ek, ha11, n11⟩ := hz62
        subst ek
        obtain ⟨m', hm, w11⟩ := hN _ _ _ n11
        have dm := d_dictSet (X := X') (A := X.A) (E := fun _ _ => False) (Q := fun _ s' => ∃ m, m < n ∧ ∃ i ys τ H', Inv X' [] τ H' s' ∧ tn i s'.heap ∧ (∀ b ∈ fp, H' b = none) ∧ W i m ys τ H') I11 ha11 hz5 r10 r11 fun s12 I12 => by
          obtain ⟨z1, z2, z3⟩ := again I12
          exact ⟨m', hm, i + 1, putK ys k y, τ8, _, z1, z2, z3, w11⟩
        rw [eP, ew] at dm
        exact dm
  have e4 : ({ newEnv scope s3.heap.objs.size X.env.globals (clF X.env scope.names []) X.env.qual none .none (some X.env) builtinsNs with scope := relabel scope X.env } : Env) = X'.env := by rw [eenv]; rfl
  rw [eenv] at loop
  have self := T.self X.A 0 s4 (fun it' s' => codeAny (model X.prog X.w) X.A (.compLoop (.DictComp kx vx [⟨tg, iter, ifs, 0⟩] scope pos) 0 it' (.ref acc) (compEnvC scope (clF X.env scope.names []) s3.heap.objs.size X.env)) (compPost (model X.prog X.w) X.A X.xe use R (.ref acc) s3.heap.objs.size) s')
    (notedBy (model X.prog X.w) X.A (compEnvC scope (clF X.env scope.names []) s3.heap.objs.size X.env) fun x s' => compPost (model X.prog X.w) X.A X.xe use R (.ref acc) s3.heap.objs.size (.error x) s') st4 loop
  exact codeAny_compStart_dict loop self
theorem dc_core {X : Cx} {xs : List Str} {ix : List Nat} {scope : Scope} {kx vx tg iter : Expr} {ifs : List Expr} {pos : Pos} {wi : TI} {g : TG} {tt : TT} {ty te : TE}
    (S : CompScope X xs ix scope) (hc : X.calm = true) (hi : PI X tg iter wi)
    (hg : ∀ C fp s H, PG (cxC X xs ix scope C fp s H) tg g) (ht : ∀ C fp s H, PTs (cxC X xs ix scope C fp s H) ifs tt) (hy : ∀ C fp s H, PE (cxC X xs ix scope C fp s H) kx ty) (he : ∀ C fp s H, PE (cxC X xs ix scope C fp s H) vx te)
    {pins : List (Addr × Obj)} {s : Shared} {σ : St} {H : Hp} {Q : VK} (I : Inv X pins σ H s) (h : tDC xs ix wi g tt ty te σ H Q) {use : Option (Value → Sem Unit)} {R : Value → Shared → Prop}
    (fin : ∀ (acc C : Addr) (H' : Hp) (s' : Shared) (m : Str → Option Value), Q (.ref acc) H' → s'.heap.Ns C m → (∀ h', Heap.SameBut C s'.heap h' → ∀ tk, Inv X pins σ H' { s' with heap := h', toks := tk }) → (X.s₀.heap.objs.size ≤ C ∧ C ≠ X.env.locals ∧ (∀ x c, X.env.cells.lookup x = some c → c ≠ C) ∧ (∀ p ∈ X.pn ++ pins, p.1 ≠ C) ∧ H' C = none) → compPost (model X.prog X.w) X.A X.xe use R (.ref acc) C (.ok .next) s') :
    wpAny (model X.prog X.w) X.A (eval iter X.env) (fun x s₁ => wpAny (model X.prog X.w) X.A (pyIter x) (fun it s₂ => wpAny (model X.prog X.w) X.A newDict (fun acc s₃ =>
      wpAny (model X.prog X.w) X.A (newFunctionEnv scope X.env.globals (clF X.env scope.names []) [] X.env.qual none .none (some X.env)) (fun cenv s₄ =>
        codeAny (model X.prog X.w) X.A (.compStart (.DictComp kx vx [⟨tg, iter, ifs, 0⟩] scope pos) 0 it acc { cenv with scope := relabel scope X.env }) (compPost (model X.prog X.w) X.A X.xe use R acc cenv.locals) s₄) X.xe s₃) X.xe s₂) X.xe s₁) X.xe s :=
  dc_coreG (Reg := fun Y => Y.K = X.K ∧ Y.calm = true) S (fun Y k c _ => ⟨k, c.trans hc⟩)
    (fun pins s σ H R I q => thn (hi pins s σ H R I q) fun v s1 h1 => thn h1 fun itv s2 h2 => by
      obtain ⟨it, fp, tn, J, H', e, I', T, r⟩ := h2
      exact ⟨it, fp, tn, J, H', e, I', ⟨T.mem, T.obj, T.keep, fun Y e1 e2 r => T.item Y e1 e2 r.1 r.2, fun Y e1 e2 r => T.done Y e1 e2 r.1 r.2, T.self⟩, r⟩) hg ht hy he I h fin
theorem pe_dc {X : Cx} {xs : List Str} {ix : List Nat} {scope : Scope} {kx vx tg iter : Expr} {ifs : List Expr} {pos : Pos} {wi : TI} {g : TG} {tt : TT} {ty te : TE}
    (S : CompScope X xs ix scope) (hc : X.calm = true) (hi : PI X tg iter wi)
    (hg : ∀ C fp s H, PG (cxC X xs ix scope C fp s H) tg g) (ht : ∀ C fp s H, PTs (cxC X xs ix scope C fp s H) ifs tt) (hy : ∀ C fp s H, PE (cxC X xs ix scope C fp s H) kx ty) (he : ∀ C fp s H, PE (cxC X xs ix scope C fp s H) vx te)
    (hs : ∀ x, foldedSetIterable iter X.env x = pure x := by intro _; rfl) :
    PE X (.DictComp kx vx [⟨tg, iter, ifs, 0⟩] scope pos) (tDC xs ix wi g tt ty te) := by
  intro pins s σ H Q I h
  have hcl : ∀ n, (n, NameKind.free) ∈ scope.names → (X.env.cells.lookup n).isSome = true := fun n hn => by
    obtain ⟨c, e⟩ := I.ok.has n (S.fre n hn)
    rw [e]; rfl
  rw [arm_eval_DictComp]
  refine wpAny_comprehension_free (use := none) rfl hs (closureFor_clF hcl) S.kind S.loc ?_
  refine dc_core S hc hi hg ht hy he I h fun acc C H' s' m q hn k _ => ?_
  exact ⟨m, hn, fun h' hsb => ⟨.ref acc, H', k h' hsb s'.toks, rfl, q⟩⟩
theorem pe_dc1 {X : Cx} {N : List Str} {sc : Scope} {x : Str} {ix : List Nat} {scope : Scope} {kx vx iter : Expr} {ifs : List Expr} {px pos : Pos} {wi : TI} {tt : TT} {ty te : TE}
    (hS : CompS N sc [x] ix scope) (hi : PI X (.Name x px) iter wi)
    (ht : ∀ C fp s H, PTs (cxC X [x] ix scope C fp s H) ifs tt) (hy : ∀ C fp s H, PE (cxC X [x] ix scope C fp s H) kx ty) (he : ∀ C fp s H, PE (cxC X [x] ix scope C fp s H) vx te)
    (hN : X.N = N := by rfl) (hsc : X.env.scope = sc := by rfl) (hc : X.calm = true := by rfl)
    (hs : ∀ x, foldedSetIterable iter X.env x = pure x := by intro _; rfl) :
    PE X (.DictComp kx vx [⟨.Name x px, iter, ifs, 0⟩] scope pos) (tDC [x] ix wi (gName 0) tt ty te) := by
  have S := hS.at (X := X) hN hsc
  have hl : ∀ C fp s H, (cxC X [x] ix scope C fp s H).env.scope.names.lookup x = some .local := fun _ _ _ _ => lookup_relabel_local (S.own x (by simp))
  exact pe_dc S hc hi (fun C fp s H => pg_name S.nd rfl (Or.inl (hl C fp s H)) (.inr (hl C fp s H))) ht hy he hs
theorem dc_list0 {K : PySem.W.Frag} {a : Addr} {its : List V} {xs : List Str} {ix : List Nat} {g : TG} {ty te : TE} {σ : St} {H1 : Hp} {Q : VK} {acc : Addr} (hn : its.length < sizeLine) (Pv : Nat → List (Key × V) → St → Hp → Prop)
    (h0 : Pv 0 [] (stC xs ix σ) (upd H1 acc (.dK []))) (hacc : ∀ i ys τ H, Pv i ys τ H → H acc = some (.dK ys) ∧ ys.length ≤ i ∧ SqL K H a its)
    (hs : ∀ i ys τ H x, its[i]? = some x → Pv i ys τ H → g x τ H fun τ2 H2 => ty τ2 H2 fun z H4 => te τ2 H4 fun y H5 => ∃ k, z = kV k ∧ H5 acc = some (.dK ys) ∧ Pv (i + 1) (putK ys k y) τ2 (upd H5 acc (.dK (putK ys k y))))
    (hd : ∀ ys τ H, Pv its.length ys τ H → Q (.ref acc) H) : DCW (Itl K a) xs ix g tYes ty te σ H1 acc Q := by
  refine ⟨fun i m ys τ H => m = its.length - i ∧ i ≤ its.length ∧ Pv i ys τ H, ⟨its.length, by simp, Nat.zero_le _, h0⟩, ?_⟩
  rintro i m ys τ H ⟨rfl, hi, p⟩
  obtain ⟨a1, a2, a3⟩ := hacc i ys τ H p
  refine ⟨a1, by omega, ?_⟩
  by_cases hlt : i < its.length
  · refine .inr ⟨⟨its, its[i], a3, by simp [hlt]⟩, fun ys' τ' H' => Pv (i + 1) ys' τ' H', fun ys' τ' H' p' => ⟨its.length - (i + 1), by omega, rfl, hlt, p'⟩, fun x H' y => ?_⟩
    obtain ⟨e, y⟩ := y
    subst e
    have ex := y its a3
    have st := hs i ys τ H' x ex p
    have e : (fun τ2 H2 => tYes τ2 H2 fun b H3 => if b = true then ty τ2 H3 fun z H4 => te τ2 H4 fun y H5 => ∃ k, z = kV k ∧ H5 acc = some (.dK ys) ∧ Pv (i + 1) (putK ys k y) τ2 (upd H5 acc (.dK (putK ys k y))) else Pv (i + 1) ys τ2 H3) =
        fun τ2 H2 => ty τ2 H2 fun z H4 => te τ2 H4 fun y H5 => ∃ k, z = kV k ∧ H5 acc = some (.dK ys) ∧ Pv (i + 1) (putK ys k y) τ2 (upd H5 acc (.dK (putK ys k y))) := by
      funext τ2 H2
      simp only [tYes, if_true]
    rw [e]; exact st
  · have ei : i = its.length := by omega
    subst ei
    exact .inl ⟨⟨its, a3, Nat.le_refl _⟩, hd ys τ H p⟩
end L2
set_option Elab.async false
set_option linter.all false
set_option maxRecDepth 100000
set_option maxHeartbeats 4000000
namespace L2
open PySem PySem.Spec PyProof.Rows
section
variable {X : Cx}
noncomputable def Like (H : Hp) : Nat → V → V → Prop
  | 0, x, y => x = y ∧ (flatV x = true ∨ ∃ a, x = .ref a)
  | n + 1, x, y => (x = y ∧ (flatV x = true ∨ ∃ a, x = .ref a)) ∨ ∃ a b xs ys, x = .ref a ∧ y = .ref b ∧ ((H a = some (.lst xs) ∧ H b = some (.lst ys)) ∨ (H a = some (.tup xs) ∧ H b = some (.tup ys))) ∧ xs.length = ys.length ∧
      ∀ (i : Nat) (u v : V), xs[i]? = some u → ys[i]? = some v → Like H n u v
theorem hu4 {A : Around} {k : Nat} (hr : Room k A) : A.units + 4 < cLine := Nat.lt_of_le_of_lt (Nat.add_le_add_left (by decide : 4 ≤ 64) _) hr.units
theorem like0 {pins : List (Addr × Obj)} {σ : St} {H : Hp} {s : Shared} {A : Around} {x : V} {v u : Value} (rx : RelV x v) (ry : RelV x u) (h : flatV x = true ∨ ∃ a, x = .ref a) : SeqAt.EqAt A s v u true := by
  rcases h with f | ⟨a, rfl⟩
  · have := eqAt_V (A := A) (s := s) rx ry f f
    rw [eqV_refl f] at this
    exact this
  · cases rx; cases ry
    exact SeqAt.EqAt.same _
theorem like_items {xs ys : List V} {i1 i2 : List Value} (r1 : Vals xs i1) (r2 : Vals ys i2) (hl : xs.length = ys.length) (j : Nat) (g1 : j < i1.toArray.size) (g2 : j < i2.toArray.size) :
    ∃ x y, xs[j]? = some x ∧ ys[j]? = some y ∧ RelV x i1.toArray[j] ∧ RelV y i2.toArray[j] := by
  have l1 := r1.length
  have l2 := r2.length
  have g1' : j < i1.length := by simpa using g1
  have g2' : j < i2.length := by simpa using g2
  obtain ⟨u, eu, ru⟩ := r1.get (i := j) (List.getElem?_eq_getElem (by omega : j < xs.length))
  obtain ⟨v, ev, rv⟩ := r2.get (i := j) (List.getElem?_eq_getElem (by omega : j < ys.length))
  have eu' : i1.toArray[j] = u := by
    rw [List.getElem?_eq_getElem g1'] at eu
    simpa using Option.some.inj eu
  have ev' : i2.toArray[j] = v := by
    rw [List.getElem?_eq_getElem g2'] at ev
    simpa using Option.some.inj ev
  rw [eu', ev']
  exact ⟨_, _, List.getElem?_eq_getElem (by omega), List.getElem?_eq_getElem (by omega), ru, rv⟩
theorem like_at {pins : List (Addr × Obj)} {σ : St} {H : Hp} {s : Shared} (I : Inv X pins σ H s) : ∀ (n : Nat) {A : Around} {x y : V} {v u : Value}, RelV x v → RelV y u → Like H n x y → A.units + n < cLine → SeqAt.EqAt A s v u true := by
  intro n
  induction n with
  | zero =>
    intro A x y v u rx ry h _
    obtain ⟨rfl, h⟩ := h
    exact like0 (pins := pins) (σ := σ) (H := H) rx ry h
  | succ n ih =>
    intro A x y v u rx ry h hu
    rcases h with ⟨rfl, h⟩ | ⟨a, b, xs, ys, rfl, rfl, h, hl, each⟩
    · exact like0 (pins := pins) (σ := σ) (H := H) rx ry h
    cases rx; cases ry
    by_cases e : a = b
    · subst e; exact SeqAt.EqAt.same _
    have hu1 : A.in1.units + n < cLine := by
      have e : A.in1.units = A.units + 1 := rfl
      omega
    refine SeqAt.EqAt.of_refs e ?_
    have hu0 : A.units < cLine := by omega
    rcases h with ⟨ha, hb⟩ | ⟨ha, hb⟩
    · obtain ⟨i1, r1, p1, _⟩ := I.list (.of ha)
      obtain ⟨i2, r2, p2, _⟩ := I.list (.of hb)
      have l1 := r1.length
      have l2 := r2.length
      have key := SeqAt.RcAt.lists (A := A) (e := fun _ => true) p1.isList p2.isList (by rw [List.size_toArray, List.size_toArray, ← l1, ← l2, hl]) hu0 (fun j g1 g2 => by
        obtain ⟨x, y, ex, ey, rx, ry⟩ := like_items r1 r2 hl j g1 g2
        exact ih rx ry (each j x y ex ey) hu1)
      rw [show (List.range i1.toArray.size).all (fun _ => true) = true by simp] at key
      exact key
    · obtain ⟨i1, r1, t1, _⟩ := I.tuple (.of ha)
      obtain ⟨i2, r2, t2, _⟩ := I.tuple (.of hb)
      have l1 := r1.length
      have l2 := r2.length
      have key := SeqAt.RcAt.tuples (A := A) (s := s) (l := a) (b := b) (e := fun _ => true) (show s.heap.IsTuple a i1.toArray from t1) (show s.heap.IsTuple b i2.toArray from t2) hu0 (fun j g1 g2 => by
        obtain ⟨x, y, ex, ey, rx, ry⟩ := like_items r1 r2 hl j g1 g2
        exact ih rx ry (each j x y ex ey) hu1)
      rw [show ((List.range (min i1.toArray.size i2.toArray.size)).all (fun _ => true) && i1.toArray.size == i2.toArray.size) = true by
        rw [List.size_toArray, List.size_toArray, ← l1, ← l2, hl]; simp] at key
      exact key
noncomputable def rLike (b : Bool) : R2 := fun x y H Q => ∃ p q xs ys, x = .ref p ∧ y = .ref q ∧ H p = some (.lst xs) ∧ H q = some (.lst ys) ∧ xs.length = ys.length ∧ (∀ (i : Nat) (u v : V), xs[i]? = some u → ys[i]? = some v → Like H 3 u v) ∧ Q (.bl b) H
theorem op_neL (hu : X.A.units + 4 < cLine) : OpR X (compareOp .NotEq) (rLike false) := by
  intro pins s σ H x y v u Q I rx ry h
  obtain ⟨a, b, xs, ys, rfl, rfl, ha, hb, hl, each, q⟩ := h
  cases rx; cases ry
  obtain ⟨i1, r1, p1, _⟩ := I.list (.of ha)
  obtain ⟨i2, r2, p2, _⟩ := I.list (.of hb)
  have l1 := r1.length
  have l2 := r2.length
  have key := SeqAt.RcNeAt.lists (A := X.A) (e := fun _ => true) p1.isList p2.isList (by rw [List.size_toArray, List.size_toArray, ← l1, ← l2, hl]) (by omega) (fun j g1 g2 => by
    obtain ⟨x, y, ex, ey, rx, ry⟩ := like_items r1 r2 hl j g1 g2
    exact like_at I 3 rx ry (each j x y ex ey) (by have e : X.A.in1.units = X.A.units + 1 := rfl; omega))
  rw [show (!(List.range i1.toArray.size).all (fun _ => true)) = false by simp] at key
  exact key _ _ _ _ ⟨.bl false, H, I, rfl, q⟩
theorem op_eqL (hu : X.A.units + 4 < cLine) : OpR X (compareOp .Eq) (rLike true) := by
  intro pins s σ H x y v u Q I rx ry h
  obtain ⟨a, b, xs, ys, rfl, rfl, ha, hb, hl, each, q⟩ := h
  cases rx; cases ry
  obtain ⟨i1, r1, p1, _⟩ := I.list (.of ha)
  obtain ⟨i2, r2, p2, _⟩ := I.list (.of hb)
  have l1 := r1.length
  have l2 := r2.length
  have key := SeqAt.RcAt.lists (A := X.A) (e := fun _ => true) p1.isList p2.isList (by rw [List.size_toArray, List.size_toArray, ← l1, ← l2, hl]) (by omega) (fun j g1 g2 => by
    obtain ⟨x, y, ex, ey, rx, ry⟩ := like_items r1 r2 hl j g1 g2
    exact like_at I 3 rx ry (each j x y ex ey) (by have e : X.A.in1.units = X.A.units + 1 := rfl; omega))
  rw [show (List.range i1.toArray.size).all (fun _ => true) = true by simp] at key
  exact key _ _ _ _ ⟨.bl true, H, I, rfl, q⟩
theorem Like.str {H : Hp} {n : Nat} (z : Str) : Like H n (.str z) (.str z) := by
  cases n with
  | zero => exact ⟨rfl, .inl rfl⟩
  | succ n => exact .inl ⟨rfl, .inl rfl⟩
theorem like_texts {H : Hp} {n : Nat} (zs : List Str) : ∀ (i : Nat) (u v : V), (zs.map V.str)[i]? = some u → (zs.map V.str)[i]? = some v → Like H n u v := fun i u v e1 e2 => by
  rw [e1] at e2
  cases e2
  rw [List.getElem?_map] at e1
  cases h : zs[i]? with
  | none => rw [h] at e1; cases e1
  | some z => rw [h] at e1; cases e1; exact Like.str z
theorem like_pairs {H : Hp} {qs rs : List Addr} {ps : List (Str × Str)} (h1 : Paired (fun q r => H q = some (.tup r)) qs (ps.map pairV)) (h2 : Paired (fun q r => H q = some (.tup r)) rs (ps.map pairV)) :
    ∀ (i : Nat) (u v : V), (qs.map V.ref)[i]? = some u → (rs.map V.ref)[i]? = some v → Like H 3 u v := fun i u v e1 e2 => by
  rw [List.getElem?_map] at e1 e2
  cases a1 : qs[i]? with
  | none => rw [a1] at e1; cases e1
  | some a =>
  cases a2 : rs[i]? with
  | none => rw [a2] at e2; cases e2
  | some b =>
  rw [a1] at e1; rw [a2] at e2
  cases e1; cases e2
  obtain ⟨r, er, ha⟩ := paired_get h1 i a a1
  obtain ⟨r', er', hb⟩ := paired_get h2 i b a2
  rw [er] at er'; cases er'
  rw [List.getElem?_map] at er
  cases ep : ps[i]? with
  | none => rw [ep] at er; cases er
  | some p =>
  rw [ep] at er; cases er
  refine .inr ⟨a, b, _, _, rfl, rfl, .inr ⟨ha, hb⟩, rfl, fun j x y ex ey => ?_⟩
  exact like_texts [p.1, p.2] j x y ex ey
theorem call_lenD : CallR X (.builtin "len") (fun xs H Q => ∃ (p : Addr) (kvs : List (Key × V)), xs = [.ref p] ∧ H p = some (.dK kvs) ∧ Q (.int kvs.length) H) := by
  intro pins s σ H xs us Q I r h
  obtain ⟨p, kvs, rfl, hP, q⟩ := h
  obtain ⟨u, rfl, rx⟩ := vals1 r
  cases rx
  obtain ⟨hz, hS, vs, rv, m⟩ : kvs.length ≤ sizeLine ∧ (p == sysModules) = false ∧ ∃ vs, KV kvs vs ∧ s.heap.DictOf (mixKind X.prog X.w) p vs := I.hok p _ hP
  have hlen : kvs.length = vs.length := Paired.length rv
  have hl := line63
  exact call_len_dict hS m (by omega) ⟨.int kvs.length, H, I.tok _, ⟨_, by rw [hlen]⟩, q⟩
end
end L2
set_option Elab.async false
set_option linter.all false
set_option maxRecDepth 100000
set_option maxHeartbeats 4000000
namespace L2
open PySem PySem.Spec PyProof.Rows
section
variable {prog : Program} {w : World} {A : Around} {E : Value → Shared → Prop} {s : Shared}
theorem pair_back {t sl : Addr} {x y vs : Value} {Q : Value → Shared → Prop} (ht : IsTup s.heap t #[x, y]) (hs : s.heap.IsSliceOf sl .none .none vs) (ps : IsPart vs (some (-1)))
    (h : Q (.ref s.heap.objs.size) { s with heap := s.heap.push { cls := .type "tuple", data := .seq #[y, x] } }) : wpAny (model prog w) A (getItem (.ref t) (.ref sl)) Q E s := by
  have htake : sizeOk (.seq (#[y, x] : Array Value)) := by show 2 ≤ sizeLine; decide
  obtain ⟨os, hos, hcs, hds⟩ := id hs
  have hTs : s.TypeIs (.ref sl) "slice" := ⟨os, hos, hcs⟩
  unfold getItem
  try with_reducible refine wpAny_holding ?_
  first | refine wpAny_bind (wpAny_pure ?_) | skip
  refine wpAny_bind (wpAny_sequenceKey ht.typeIs (by decide) ?_)
  refine wpAny_bind (wpAny_callSpecial?_slot (name := Str.ofString "__getitem__") ht.typeIs PyProof.Rows.slot_tuple_getitem
    (wpAny_call_entry PyProof.Rows.slot_tuple_getitem ht.typeIs entry_tuple_getitem ?_ (args_tuple_getitem _ _)))
  show wpAny _ _ (Builtin.Tuple.tupleItemsOf (.ref t) >>= _) _ _ s
  refine wpAny_bind (tupleItemsOf_ ht ?_)
  refine wpAny_bind (wpAny_typeOf hTs ?_)
  rw [if_pos (by decide)]
  have key : ∀ (A : Around) (E : Value → Shared → Prop), wpAny (model prog w) A (Builtin.Slice.sliceApplied (.ref sl) (pure ((2 : Nat) : Int))) (fun r s' => r = ((1 : Int), (-1 : Int), (2 : Nat)) ∧ s' = s) E s := by
    intro A E
    unfold Builtin.Slice.sliceApplied Builtin.Slice.sliceFields
    refine wpAny_bind (wpAny_bind (wpAny_field hos hds (x := .none) rfl (wpAny_bind (wpAny_field hos hds (x := .none) rfl (wpAny_bind (wpAny_field hos hds (x := vs) rfl (wpAny_pure ?_)))))))
    refine wpAny_bind (HT.slicePart_ ps ?_)
    show wpAny _ _ (if ((-1 : Int) == 0) = true then _ else _) _ _ s
    rw [if_neg (by decide)]
    refine wpAny_bind (slicePart_none (wpAny_bind (slicePart_none (wpAny_bind (wpAny_pure ?_)))))
    exact wpAny_pure ⟨rfl, rfl⟩
  refine wpAny_bind (wpAny_mono (key _ _) (fun r s' q => ?_) fun _ _ z => z)
  obtain ⟨e1, e2⟩ := q
  subst e1 e2
  show wpAny _ _ (if ((1 : Int) == 0 && (-1 : Int) == 1 && (2 : Nat) == 2) = true then _ else _) _ _ _
  rw [if_neg (by decide)]
  have pk : ((List.range 2).filterMap fun (k : Nat) => (#[x, y] : Array Value)[((1 : Int) + (k : Int) * (-1)).toNat]?).toArray = #[y, x] := rfl
  rw [pk]
  first
    | exact wpAny_bind (m := Builtin.Tuple.tupleExact _) (wpAny_newObj_type (wpAny_pure ⟨_, rfl, wpAny_pure h⟩) htake)
    | exact wpAny_bind (m := Builtin.Tuple.tupleExact _) (wpAny_newObj_type (wpAny_bind (wpAny_pure (wpAny_pure ⟨_, rfl, wpAny_pure h⟩))) htake)
end
section
variable {X : Cx} {e : Expr} {te : TE} {pos p1 p2 p3 : Pos} {j1 : Nat}
noncomputable def tBackT (te : TE) : TE := fun σ H Q => te σ H fun x H1 => ∃ a u v, x = .ref a ∧ H1 a = some (.tup [u, v]) ∧ ∀ p, H1 p = none → Q (.ref p) (upd H1 p (.tup [v, u]))
theorem pe_backT (he : PE X e te) : PE X (.Subscript e (.Slice none none (some (.UnaryOp .USub (.Constant (.int 1) j1 p1) p3)) p2) pos) (tBackT te) := by
  intro pins s σ H Q I h
  refine Subscript_ (thn (he pins s σ H _ I h) fun v s1 hz63 => ?_)
  obtain ⟨x, H1, I1, r1, q1⟩ := hz63
  refine wpAny_Slice ?_
  rw [evalPart_none]
  refine wpAny_pure (wpAny_pure ?_)
  refine thn ((po_some (pe_m1 (X := X) (j1 := j1) (p1 := p1) (p3 := p3))) pins s1 σ H1 (fun o H2 => o = some (-1) ∧ H2 = H1) I1 ⟨-1, rfl, rfl, rfl⟩) fun vs s3 hz64 => ?_
  obtain ⟨o, H3, I3, ps, e1, e2⟩ := hz64
  subst e1 e2
  obtain ⟨a, u, v, rfl, hx, q⟩ := q1
  cases r1
  have I4 : Inv X pins σ H3 { s3 with heap := s3.heap.push { cls := .type "slice", data := .fields #[.none, .none, vs] } } := I3.kept (t' := s3.toks) fun b ob q => Heap.get?_push_of_some _ q
  obtain ⟨its, r, ht, hz⟩ := I4.tuple (.of hx)
  cases r with
  | cons r1 t =>
  cases t with
  | cons r2 t =>
  cases t
  show wpAny (model X.prog X.w) X.A (subscriptTail e (.Slice none none (some (.UnaryOp .USub (.Constant (.int 1) j1 p1) p3)) p2) (.ref a) (.ref s3.heap.objs.size)) (EP X pins σ Q) X.xe { s3 with heap := s3.heap.push { cls := .type "slice", data := .fields #[.none, .none, vs] } }
  refine tail_any (ops := [.ref a, .ref s3.heap.objs.size]) ht.typeIs slot_tuple_getitem.lookup ?_ (by with_unfolding_all rfl)
  refine pair_back ht (Heap.IsSliceOf.new ..) ps ?_
  refine ⟨.ref _, _, I4.laid (t' := s3.toks) (o := .tup [v, u]) (fun b ob q => Heap.get?_push_of_some _ q) (Nat.le_refl _) ?_, rfl, q _ (I4.hok.fresh (Nat.le_refl _))⟩
  exact ⟨by show 2 ≤ sizeLine; decide, _, .cons r2 (.cons r1 .nil), IsTup.new _ _⟩
end
end L2
set_option Elab.async false
set_option linter.all false
set_option maxRecDepth 100000
set_option maxHeartbeats 4000000
namespace L2
open PySem PySem.Spec PyProof.Rows
section
variable {prog : Program} {w : World} {A : Around} {E : Value → Shared → Prop} {s : Shared}
theorem unpackItems_star {t : Addr} {items : Array Value} {n i : Nat} {Q : List Value → Shared → Prop} (hh : A.handled = none) (ht : s.heap.IsList t items) (hi : i < n) (hn : n ≤ items.size + 1) (hz : items.size ≤ 16384)
    (h : ∀ h2 tk, Heap.ExtBut s.heap.objs.size s.heap h2 → Q (items.toList.take i ++ [.ref h2.objs.size] ++ (items.toList.drop i).drop (items.size + 1 - n))
      { s with heap := h2.push { cls := .type "list", data := .seq ((items.toList.drop i).take (items.size + 1 - n)).toArray }, toks := tk }) :
    wpAny (model prog w) A (unpackItems (.ref t) n (some i)) Q E s := by
  have hne : t ≠ s.heap.objs.size := by obtain ⟨o, ho, _⟩ := ht; exact Nat.ne_of_lt (Heap.lt_size ho)
  unfold unpackItems
  refine wpAny_bind ?_
  unfold notIterableAtAll
  refine wpAny_bind (wpAny_specialOf ht.typeIs slot_list_iter.lookup ?_)
  refine wpAny_pure ?_
  simp only [Bool.false_eq_true, if_false]
  refine wpAny_bind (wpAny_holding (wpAny_pyIter_list ht ?_))
  refine wpAny_bind (wpAny_holding (draw_listL hne i 0 _ _ ⟨_, Heap.get?_push_size _ rfl, rfl, rfl⟩ (ht.push _) (by omega) fun h1 hit1 hs1 => ?_))
  have ht1 : h1.IsList t items := (ht.push _).extBut hs1.extBut hne
  rw [Nat.zero_add] at hit1
  obtain ⟨oi, hoi, _⟩ := id hit1
  obtain ⟨ol, hol, _⟩ := id ht1
  rw [List.drop_zero]
  have l1 : (items.toList.take i).length = i := by
    rw [List.length_take, Array.length_toList]; omega
  rw [if_neg (by rw [l1]; omega)]
  refine wpAny_bind (wpAny_holding (PySem.W.kun_collect (s := { s with heap := h1 }) (T := "list_iterator") (.inr (.inr (.inl rfl)))
    (Walks.list (A := A.in1) hh s.heap.objs.size t hne items) (fun j u st => st.1.typeIs) (k := i) (by omega) ⟨hit1, ht1⟩ (Heap.lt_size hoi) (Heap.lt_size hol) (fun h2 tk hk => ?_)
    (by rw [sizeLine_eq]; omega)))
  have l2 : (items.toList.drop i).length = items.size - i := by
    rw [List.length_drop, Array.length_toList]
  have l3 : (items.toList.drop i).length - (n - 1 - i) = items.size + 1 - n := by
    rw [l2]; omega
  dsimp only
  rw [if_neg (by rw [l2]; omega), l3]
  have he : Heap.ExtBut s.heap.objs.size s.heap h2 := fun b o hb e =>
    hk b o hb (hs1.extBut b o hb (Heap.get?_push_of_some _ e))
  exact wpAny_bind (wpAny_newList (s := { s with heap := h2, toks := tk }) (wpAny_pure (h h2 tk he)) (by
    rw [List.length_take, l2, sizeLine_eq]; omega))
end
section
variable {X : Cx} {pos : Pos}
noncomputable def gStar (K : PySem.W.Frag) (i n : Nat) (t : TGs) : TG := fun v σ H Q => ∃ a xs, v = .ref a ∧ SqL K H a xs ∧ n ≤ xs.length + 1 ∧ xs.length ≤ 16384 ∧
  ∀ D, H D = none → t (xs.take i ++ [.ref D] ++ (xs.drop i).drop (xs.length + 1 - n)) σ (upd H D (.lst ((xs.drop i).take (xs.length + 1 - n)))) Q
theorem vals_take {xs : List V} {us : List Value} (h : Vals xs us) (k : Nat) : Vals (xs.take k) (us.take k) := by
  induction h generalizing k with
  | nil => rw [List.take_nil, List.take_nil]; exact .nil
  | cons r _ ih =>
    cases k with
    | zero => exact .nil
    | succ k => exact .cons r (ih k)
theorem vals_drop {xs : List V} {us : List Value} (h : Vals xs us) (k : Nat) : Vals (xs.drop k) (us.drop k) := by
  induction h generalizing k with
  | nil => rw [List.drop_nil, List.drop_nil]; exact .nil
  | cons r rr ih =>
    cases k with
    | zero => exact .cons r rr
    | succ k => exact ih k
theorem vals_app {xs ys : List V} {us vs : List Value} (h : Vals xs us) (g : Vals ys vs) : Vals (xs ++ ys) (us ++ vs) := by
  induction h with
  | nil => exact g
  | cons r _ ih => exact .cons r ih
theorem pg_star {es : List Expr} {k : Nat} {t : TGs} {n i : Nat} (hc : X.calm = true) (h : PGs X es t)
    (hn : (assignEach es X.env).length = n := by rfl) (hst : (assignEach es X.env).findIdx? (·.1) = some i := by rfl) (hi : i < n := by decide) : PG X (.Tuple es k pos) (gStar X.K i n t) := by
  intro pins s σ H v u Q I r hw
  obtain ⟨a, xs, e1, hq, hl, hz, hw⟩ := hw
  subst e1
  cases r
  obtain ⟨its, rv, ht, _⟩ := I.list hq
  have le := rv.length
  rw [assign_Tuple]
  refine wpAny_bind (wpAny_standAt ?_)
  unfold unpack
  rw [hn, hst]
  refine wpAny_bind (wpAny_holding (unpackItems_star (I.ok.hd hc) ht.isList hi (by simp; omega) (by simp; omega) fun h2 tk hx => ?_))
  have I1 : Inv X pins σ H { s with heap := h2, toks := tk } := I.kept (t' := tk) fun b o e => hx b o (Nat.ne_of_lt (Heap.lt_size e)) e
  have q := hw _ I1.fresh
  have e2 : its.toArray.size = xs.length := by simp [le]
  have I2 := I1.lnew (t' := tk) (vals_take (vals_drop rv i) (xs.length + 1 - n)) (by rw [List.length_take, List.length_drop, sizeLine_eq]; omega)
  rw [e2]
  refine h pins _ σ _ _ _ Q I2 ?_ q
  exact vals_app (vals_app (vals_take rv i) (.cons rfl .nil)) (vals_drop (vals_drop rv i) _)
theorem pgs_star {e : Expr} {es : List Expr} {t : TG} {u : TGs} {p : Pos} (h1 : PG X e t) (h2 : PGs X es u) : PGs X (.Starred e p :: es) (gCons t u) := by
  intro pins s σ H vs us Q I r h
  obtain ⟨v, vr, e1, h⟩ := h
  subst e1
  cases r with
  | cons r rr =>
    show wpAny _ _ (assignInOrder (assign e X.env :: (assignEach es X.env).map (·.2)) _) _ _ _
    refine assignInOrder_cons (thn (h1 pins s σ H _ _ _ I r h) fun _ s1 hz65 => ?_)
    obtain ⟨σ1, H1, I1, q1⟩ := hz65
    exact h2 pins s1 σ1 H1 _ _ Q I1 rr q1
end
theorem star_two (x : V) (r : List V) (D : Addr) : (x :: r).take 1 ++ [V.ref D] ++ ((x :: r).drop 1).drop ((x :: r).length + 1 - 2) = [x, .ref D] ∧ ((x :: r).drop 1).take ((x :: r).length + 1 - 2) = r := by
  simp
section
variable {X : Cx}
end
end L2
set_option Elab.async false
set_option linter.all false
set_option maxRecDepth 100000
set_option maxHeartbeats 4000000
namespace L2
open PySem PySem.Spec PyProof.Rows
noncomputable def jn (c : Nat) : List (List Nat) → List Nat
  | [] => []
  | [x] => x
  | x :: y :: r => x ++ c :: jn c (y :: r)
theorem jn_cut {c : Nat} : ∀ {a b x y : List Nat}, c ∉ a → c ∉ b → a ++ c :: x = b ++ c :: y → a = b ∧ x = y
  | [], [], _, _, _, _, e => ⟨rfl, (List.cons.inj e).2⟩
  | [], b :: bs, _, _, _, hb, e => absurd (List.cons.inj e).1 (fun z => hb (by rw [z]; exact List.mem_cons_self))
  | a :: as, [], _, _, ha, _, e => absurd (List.cons.inj e).1 (fun z => ha (by rw [← z]; exact List.mem_cons_self))
  | a :: as, b :: bs, _, _, ha, hb, e => by
    obtain ⟨e1, e2⟩ := List.cons.inj e
    obtain ⟨r1, r2⟩ := jn_cut (fun z => ha (List.mem_cons_of_mem _ z)) (fun z => hb (List.mem_cons_of_mem _ z)) e2
    exact ⟨by rw [e1, r1], r2⟩
theorem jn_inj {c : Nat} : ∀ {xs ys : List (List Nat)}, xs ≠ [] → ys ≠ [] → (∀ x ∈ xs, c ∉ x) → (∀ y ∈ ys, c ∉ y) → jn c xs = jn c ys → xs = ys
  | [], _, h, _, _, _, _ => absurd rfl h
  | _, [], _, h, _, _, _ => absurd rfl h
  | [x], [y], _, _, _, _, e => by rw [show x = y from e]
  | [x], y :: z :: ys, _, _, hx, _, e => absurd (show x = y ++ c :: jn c (z :: ys) from e) (fun q => hx x List.mem_cons_self (by rw [q]; simp))
  | x :: z :: xs, [y], _, _, _, hy, e => absurd (show x ++ c :: jn c (z :: xs) = y from e) (fun q => hy y List.mem_cons_self (by rw [← q]; simp))
  | x :: a :: xs, y :: b :: ys, _, _, hx, hy, e => by
    obtain ⟨r1, r2⟩ := jn_cut (hx x List.mem_cons_self) (hy y List.mem_cons_self) (show x ++ c :: jn c (a :: xs) = y ++ c :: jn c (b :: ys) from e)
    rw [r1, jn_inj (List.cons_ne_nil _ _) (List.cons_ne_nil _ _) (fun z hz => hx z (List.mem_cons_of_mem _ hz)) (fun z hz => hy z (List.mem_cons_of_mem _ hz)) r2]
theorem cps_app (a b : Str) : (a ++ b).cps.toList = a.cps.toList ++ b.cps.toList := by
  show (a.cps ++ b.cps).toList = _
  simp
theorem cps_join (c : Nat) : ∀ ys : List Str, (Str.join ⟨#[c]⟩ ys).cps.toList = jn c (ys.map fun y => y.cps.toList)
  | [] => rfl
  | [x] => rfl
  | x :: y :: r => by
    show (x ++ ⟨#[c]⟩ ++ Str.join ⟨#[c]⟩ (y :: r)).cps.toList = _
    rw [cps_app, cps_app, cps_join c (y :: r)]
    show x.cps.toList ++ [c] ++ _ = x.cps.toList ++ c :: _
    rw [List.append_assoc]; rfl
theorem str_ext {a b : Str} (h : a.cps.toList = b.cps.toList) : a = b := by
  cases a; cases b
  simp only [Str.mk.injEq]
  exact Array.toList_inj.mp h
theorem strs_ext : ∀ {xs ys : List Str}, xs.map (fun y => y.cps.toList) = ys.map (fun y => y.cps.toList) → xs = ys
  | [], [], _ => rfl
  | [], _ :: _, e => by cases e
  | _ :: _, [], e => by cases e
  | x :: xs, y :: ys, e => by
    obtain ⟨e1, e2⟩ := List.cons.inj e
    rw [str_ext e1, strs_ext e2]
theorem split_ne (x y : Str) : Txt.split x y ≠ [] := by
  unfold Txt.split
  split
  · simp
  · split
    · simp
    · rw [StrLaws.partsBetween_eq]
      obtain ⟨p, r, e⟩ := StrLaws.partsFrom_ne x y.length 0 (Builtin.Str.occurrences x y 0 x.length (x.length + 1))
      rw [e]; simp
theorem split_join {c : Nat} {ys : List Str} (ne : ys ≠ []) (free : ∀ y ∈ ys, c ∉ y.cps.toList) : Txt.split (Str.join ⟨#[c]⟩ ys) ⟨#[c]⟩ = ys := by
  have e := StrLaws.join_split (Str.join ⟨#[c]⟩ ys) ⟨#[c]⟩
  have e2 := congrArg (fun z : Str => z.cps.toList) e
  rw [cps_join, cps_join] at e2
  refine strs_ext (jn_inj (c := c) ?_ ?_ ?_ ?_ e2)
  · intro h; exact split_ne _ _ (List.map_eq_nil_iff.mp h)
  · intro h; exact ne (List.map_eq_nil_iff.mp h)
  · intro x hx
    obtain ⟨p, hp, rfl⟩ := List.mem_map.mp hx
    exact StrLaws.split_free _ c p hp
  · intro x hx
    obtain ⟨p, hp, rfl⟩ := List.mem_map.mp hx
    exact free p hp
theorem glue_go (g : Str) : ∀ (ps : List Str) (a : Array Nat), (ps.foldl (fun acc p => acc ++ g.cps ++ p.cps) a).toList = a.toList ++ (ps.map fun p => g.cps.toList ++ p.cps.toList).flatten
  | [], a => by simp
  | p :: ps, a => by
    rw [List.foldl_cons, glue_go g ps]
    simp
theorem jn_flat (c : Nat) : ∀ (x : List Nat) (r : List (List Nat)), jn c (x :: r) = x ++ (r.map fun p => [c] ++ p).flatten
  | x, [] => by simp [jn]
  | x, y :: r => by
    show x ++ c :: jn c (y :: r) = _
    rw [jn_flat c y r]
    simp
theorem txt_join (c : Nat) (ys : List Str) : Txt.join ⟨#[c]⟩ ys = Str.join ⟨#[c]⟩ ys := by
  refine str_ext ?_
  rw [cps_join]
  show ((ys.drop 1).foldl (fun acc p => acc ++ (⟨#[c]⟩ : Str).cps ++ p.cps) (ys.headD Str.empty).cps).toList = _
  rw [glue_go]
  cases ys with
  | nil => rfl
  | cons y r =>
    rw [List.map_cons, jn_flat, List.map_map]
    rfl
theorem sj_len (c : Nat) : ∀ ys : List Str, (Str.join ⟨#[c]⟩ ys).length ≤ (ys.map (·.length)).sum + ys.length
  | [] => Nat.le_refl _
  | [x] => by show x.length ≤ _; simp
  | x :: y :: r => by
    have := sj_len c (y :: r)
    have e : (Str.join ⟨#[c]⟩ (x :: y :: r)).length = x.length + 1 + (Str.join ⟨#[c]⟩ (y :: r)).length := by
      show (x.cps ++ #[c] ++ (Str.join ⟨#[c]⟩ (y :: r)).cps).size = _
      simp [Str.length]
    rw [e]
    simp only [List.map_cons, List.sum_cons, List.length_cons] at this ⊢
    omega
section
variable {prog : Program} {w : World} {A : Around} {E : Value → Shared → Prop} {s : Shared}
open Builtin.Str in
theorem split_one {x : Str} {c : Nat} {t u : Tok} {Q : Value → Shared → Prop} (hz : x.length ≤ 10000)
    (h : ∀ (its : List Value) (tk : Nat), Vals ((Txt.split x ⟨#[c]⟩).map V.str) its → Q (.ref s.heap.objs.size) { s with heap := s.heap.push { cls := .type "list", data := .seq its.toArray }, toks := tk }) :
    wpAny (model prog w) A (call (.builtin "str.split") [.str x t, .str ⟨#[c]⟩ u]) Q E s := by
  have one : ∀ a : Str, Vals ([a].map V.str) [Value.str a t] := fun a => .cons ⟨t, rfl⟩ .nil
  have num : ∀ (l : List Str) (k : Nat), Vals (l.map V.str) (strValues (numbered k l)) := by
    intro l
    induction l with
    | nil => intro k; exact .nil
    | cons a l ih => intro k; exact .cons ⟨_, rfl⟩ (ih _)
  have hsz : x.length ≤ sizeLine := by rw [sizeLine_eq]; omega
  have cuts : (partsBetween x (occurrences x ⟨#[c]⟩ 0 x.length (x.length + 1)) (⟨#[c]⟩ : Str).length).length ≤ sizeLine := by
    have b := StrLaws.occ_length_le x ⟨#[c]⟩ 0 x.length (x.length + 1)
    unfold partsBetween
    rw [List.length_map, List.length_zip, sizeLine_eq]
    simp only [List.length_cons, List.length_map, List.length_append]
    omega
  cases h1 : (decide (x.length < (⟨#[c]⟩ : Str).length) || decide (Builtin.Str.strKind x < Builtin.Str.strKind ⟨#[c]⟩)) with
  | true =>
    have e : Txt.split x ⟨#[c]⟩ = [x] := if_pos h1
    rw [e] at h
    exact call_meets F.slot_str_split (typeIs_str _ _ _) F.entry_str_split (F.args_str_split_2 _ _) (meets_str_split_cannot_occur x ⟨#[c]⟩ t u h1) (h [.str x t] s.toks (one x))
  | false =>
    cases hf : (occurrences x ⟨#[c]⟩ 0 x.length (x.length + 1)).isEmpty with
    | true =>
      have e : Txt.split x ⟨#[c]⟩ = [x] := (if_neg (ne_true_of_eq_false h1)).trans (if_pos hf)
      rw [e] at h
      exact call_meets F.slot_str_split (typeIs_str _ _ _) F.entry_str_split (F.args_str_split_2 _ _) (meets_str_split_not_found x ⟨#[c]⟩ t u h1 rfl hf) (h [.str x t] s.toks (one x))
    | false =>
      have e : Txt.split x ⟨#[c]⟩ = partsBetween x (occurrences x ⟨#[c]⟩ 0 x.length (x.length + 1)) (⟨#[c]⟩ : Str).length := (if_neg (ne_true_of_eq_false h1)).trans (if_neg (ne_true_of_eq_false hf))
      rw [e] at h
      refine call_meets F.slot_str_split (typeIs_str _ _ _) F.entry_str_split (F.args_str_split_2 _ _) (meets_str_split_sep x ⟨#[c]⟩ t u h1 rfl hf hsz cuts) ?_
      have q := fun tk => h (strValues (numbered s.toks (partsBetween x (occurrences x ⟨#[c]⟩ 0 x.length (x.length + 1)) (⟨#[c]⟩ : Str).length))) tk (num _ _)
      rw [← strsFrom_eq] at q
      exact q _
end
theorem split_many (x : Str) (c : Nat) : (Txt.split x ⟨#[c]⟩).length ≤ x.length + 2 := by
  unfold Txt.split
  split
  · simp
  · split
    · simp
    · have b := StrLaws.occ_length_le x ⟨#[c]⟩ 0 x.length (x.length + 1)
      unfold Builtin.Str.partsBetween
      rw [List.length_map, List.length_zip]
      simp only [List.length_cons, List.length_map, List.length_append]
      omega
section
variable {X : Cx} {pos : Pos}
theorem mt_split : MtR X "str.split" (fun x xs H Q => ∃ (z : Str) (c : Nat), x = .str z ∧ xs = [.str ⟨#[c]⟩] ∧ z.length ≤ 10000 ∧ ∀ l, H l = none → Q (.ref l) (upd H l (.lst ((Txt.split z ⟨#[c]⟩).map V.str)))) := by
  intro pins s σ H x xs v us Q I rx rs h
  obtain ⟨z, c, rfl, rfl, hz, q⟩ := h
  obtain ⟨t, rfl⟩ := (show ∃ t, v = Value.str z t from rx)
  obtain ⟨u, rfl, ru⟩ := rs.one
  obtain ⟨t2, rfl⟩ := (show ∃ t, u = Value.str ⟨#[c]⟩ t from ru)
  refine split_one hz fun its tk hv => ?_
  have lz : ((Txt.split z ⟨#[c]⟩).map V.str).length ≤ sizeLine := by
    have := split_many z c
    rw [List.length_map, sizeLine_eq]; omega
  exact ⟨.ref s.heap.objs.size, _, I.lnew (t' := tk) hv lz, rfl, q _ I.fresh⟩
noncomputable abbrev TJ := St → Hp → Str → VK → Prop
noncomputable def jNil : TJ := fun _ H out Q => out.length ≤ sizeLine ∧ Q (.str out) H
noncomputable def jCons (t : TE) (u : TJ) : TJ := fun σ H out Q => t σ H fun x H1 => ∃ z, x = .str z ∧ (out ++ z).length ≤ sizeLine ∧ u σ H1 (out ++ z) Q
noncomputable def PJ (X : Cx) (es : List Expr) (t : TJ) : Prop := ∀ (pins : List (Addr × Obj)) (s : Shared) (σ : St) (H : Hp) (out : Str) (Q : VK), Inv X pins σ H s → t σ H out Q → wpAny (model X.prog X.w) X.A (joinParts out (evalEach es X.env)) (EP X pins σ Q) X.xe s
theorem pj_nil : PJ X [] jNil := fun pins s σ H out Q I h => joinParts_nil ⟨.str out, H, I.tok _, ⟨_, rfl⟩, h.2⟩ h.1
theorem pj_cons {e : Expr} {es : List Expr} {t : TE} {u : TJ} (h1 : PE X e t) (h2 : PJ X es u) : PJ X (e :: es) (jCons t u) := by
  intro pins s σ H out Q I h
  refine joinParts_cons (thn (h1 pins s σ H _ I h) fun v s1 hz66 => ?_)
  obtain ⟨x, H1, I1, r1, q1⟩ := hz66
  obtain ⟨z, rfl, hz, q⟩ := q1
  obtain ⟨k, rfl⟩ := (show ∃ k, v = Value.str z k from r1)
  exact ⟨hz, h2 pins s1 σ H1 _ Q I1 q⟩
noncomputable def tFmt (t : TE) : TE := fun σ H Q => t σ H fun x H1 => ∃ z, x = .str z ∧ z.length ≤ sizeLine ∧ Q (.str z) H1
theorem pe_fmt {e : Expr} {t : TE} (h : PE X e t) : PE X (.FormattedValue e (-1) none pos) (tFmt t) := by
  intro pins s σ H Q I hw
  refine FormattedValue_plain (thn (h pins s σ H _ I hw) fun v s1 hz67 => ?_)
  obtain ⟨x, H1, I1, r1, q1⟩ := hz67
  obtain ⟨z, rfl, hz, q⟩ := q1
  obtain ⟨k, rfl⟩ := (show ∃ k, v = Value.str z k from r1)
  exact formatField_str (fun t' tk => ⟨.str z, H1, I1.tok tk, ⟨t', rfl⟩, q⟩) hz
theorem pe_fs {a b : Expr} {es : List Expr} {t : TJ} (h : PJ X (a :: b :: es) t) : PE X (.JoinedStr (a :: b :: es) pos) (fun σ H Q => t σ H Str.empty Q) := fun pins s σ H Q I hw => JoinedStr_many (h pins s σ H Str.empty Q I hw)
end
section
variable {X : Cx}
noncomputable def rJn (K : PySem.W.Frag) : V → List V → Hp → VK → Prop := fun x xs H Q => ∃ (z : Str) (p : Addr) (ys : List Str), x = .str z ∧ xs = [.ref p] ∧ SqL K H p (ys.map V.str) ∧ (ys.map (·.length)).sum + ys.length * z.length ≤ 16777216 ∧ Q (.str (Txt.join z ys)) H
theorem pe_joinCat {sep word : Str} {k1 k2 : Nat} {p1 p2 p3 p4 p5 p6 : Pos} {ex : Expr} {tx : TE} (hl : PE X ex tx) (hline : (p2.endLine == p6.line) = true := by rfl) :
    PE X (.Call (.Attribute (.Constant (.str sep) k1 p1) "join" p2) [.BinOp (.List [.Constant (.str word) k2 p3] p4) .Add ex p5] [] p6) (tBM X.K "str" (rJn X.K) (tC (.str sep)) (tCons (tOp rCat (tLst (tCons (tC (.str word)) tNil)) tx) tNil)) :=
  pe_bm (cpos := p6) (apos := p2) PySem.F.plainAttrs_str PySem.F.slot_str_join PySem.F.type_str_join mt_join pe_str (pa_cons (pe_op op_cat (pe_lst (pa_cons pe_str pa_nil)) hl) pa_nil) rfl rfl hline
theorem pe_joinCat1 {sep : Str} {k1 : Nat} {p1 p2 p4 p5 p6 : Pos} {e ex : Expr} {te tx : TE} (he : PE X e te) (hl : PE X ex tx) (hline : (p2.endLine == p6.line) = true := by rfl) (hs : starEach [e] X.env = [(false, eval e X.env)] := by rfl) :
    PE X (.Call (.Attribute (.Constant (.str sep) k1 p1) "join" p2) [.BinOp (.List [e] p4) .Add ex p5] [] p6) (tBM X.K "str" (rJn X.K) (tC (.str sep)) (tCons (tOp rCat (tLst (tCons te tNil)) tx) tNil)) :=
  pe_bm (cpos := p6) (apos := p2) PySem.F.plainAttrs_str PySem.F.slot_str_join PySem.F.type_str_join mt_join pe_str (pa_cons (pe_op op_cat (pe_lst (pa_cons he pa_nil hs)) hl) pa_nil) rfl rfl hline
theorem pe_joinC {E : Expr} {sep word : Str} {k1 k2 : Nat} {p1 p2 p3 p4 p5 p6 : Pos} {ex : Expr} {tx : TE} (hE : E = .Call (.Attribute (.Constant (.str sep) k1 p1) "join" p2) [.BinOp (.List [.Constant (.str word) k2 p3] p4) .Add ex p5] [] p6) (hl : PE X ex tx) (hline : (p2.endLine == p6.line) = true := by rfl) :
    PE X E (tBM X.K "str" (rJn X.K) (tC (.str sep)) (tCons (tOp rCat (tLst (tCons (tC (.str word)) tNil)) tx) tNil)) := by
  subst hE
  exact pe_joinCat hl hline
theorem pe_joinD {E : Expr} {sep : Str} {k1 : Nat} {p1 p2 p4 p5 p6 : Pos} {e ex : Expr} {te tx : TE} (hE : E = .Call (.Attribute (.Constant (.str sep) k1 p1) "join" p2) [.BinOp (.List [e] p4) .Add ex p5] [] p6) (he : PE X e te) (hl : PE X ex tx) (hline : (p2.endLine == p6.line) = true := by rfl) (hs : starEach [e] X.env = [(false, eval e X.env)] := by rfl) :
    PE X E (tBM X.K "str" (rJn X.K) (tC (.str sep)) (tCons (tOp rCat (tLst (tCons te tNil)) tx) tNil)) := by
  subst hE
  exact pe_joinCat1 he hl hline hs
end
section
open PySem.SeqAt
open PySem.AutoSeq1 (wpAny_loadPart')
open PySem.MeetsSeq PySem.MeetsSeq2 PySem.MeetsSeq3
theorem rcLt_str (A : Around) (s : Shared) (a : Str) (t : Tok) (c : Str) (u : Tok) (prog : Program) (w : World) (E : Value → Shared → Prop) (Q : Value → Shared → Prop) (h : Q (.bool (ltS a c)) s) :
    wpAny (model prog w) A (richCompare .Lt (.str a t) (.str c u)) Q E s := (PyProof.Rows.lt_str h : wpAny (model prog w) A (compareOp .Lt (.str a t) (.str c u)) Q E s)
noncomputable def lexS : List Str → List Str → Bool
  | [], [] => false
  | [], _ :: _ => true
  | _ :: _, [] => false
  | a :: as, c :: cs => if a = c then lexS as cs else ltS a c
theorem lexS_nil_nil : lexS [] [] = false := rfl
theorem lexS_nil_cons (c : Str) (cs : List Str) : lexS [] (c :: cs) = true := rfl
theorem lexS_cons_nil (a : Str) (as : List Str) : lexS (a :: as) [] = false := rfl
theorem lexS_cons (a c : Str) (as cs : List Str) : lexS (a :: as) (c :: cs) = if a = c then lexS as cs else ltS a c := rfl
theorem lexS_pair (p q : Str × Str) : lexS [p.1, p.2] [q.1, q.2] = ltP p q := by
  unfold ltP
  rw [lexS_cons, lexS_cons, lexS_nil_nil]
  by_cases e : p.2 = q.2
  · rw [if_pos e, e, ltS_self]
  · rw [if_neg e]
theorem eqAt_text (A : Around) (s : Shared) (a : Str) (t : Tok) (c : Str) (u : Tok) : ∃ e, SeqAt.EqAt A s (.str a t) (.str c u) e ∧ (e = true ↔ a = c) := ⟨(a == c), SeqAt.EqAt.str_str a t c u, by simp⟩
theorem tuple_lt_texts (l b : Addr) (items items2 : Array Value) (n n2 : Nat) (dd dd2 : Option Addr) (sl sl2 : Array (Option Value)) (ns ms : List Str) (hi : StrsAre items.toList ns) (hj : StrsAre items2.toList ms) :
    Meets (Builtin.«tuple.__lt__» ⟨[.ref l, .ref b], []⟩)
      (fun _ R s => s.heap.get? l = some { cls := .type "tuple", dict := dd, data := .seq items n, slots := sl } ∧ s.heap.get? b = some { cls := .type "tuple", dict := dd2, data := .seq items2 n2, slots := sl2 } ∧
        R (.ok (.ret (.bool (lexS ns ms)))) s) :=
  .of_wp fun prog w A R s h => by
    obtain ⟨hp, g, d, tk, os⟩ := s; obtain ⟨hl, hb, h⟩ := h
    have f2 := AutoSeq1.sub_tuple_tuple
    have z1 : items.size = ns.length := by rw [← hi.length]; simp
    have z2 : items2.size = ms.length := by rw [← hj.length]; simp
    wp_walk using wpAny_loadPart' hl, wpAny_loadPart' hb, wpAny_forIn_list _ (fun rest b s' => b.1 = none ∧ s' = ⟨hp, g, d, tk, os⟩ ∧ ∃ (vs ws : List Value) (ns' ms' : List Str), rest = vs.zip ws ∧
      StrsAre vs ns' ∧ StrsAre ws ms' ∧ ns'.length + items2.size = ms'.length + items.size ∧ R (.ok (.ret (.bool (lexS ns' ms')))) ⟨hp, g, d, tk, os⟩) _
    case turn =>
      rintro ⟨y, x⟩ rest b s' ⟨hb', rfl, vs, ws, ns', ms', hz, hvi, hwi, hlen, hR⟩
      cases hvi with
      | nil => rw [List.zip_nil_left] at hz; cases hz
      | cons a t hvi' =>
        cases hwi with
        | nil => rw [List.zip_nil_right] at hz; cases hz
        | cons c u hwi' =>
          rw [List.zip_cons_cons] at hz
          injection hz with hyx hrest
          injection hyx with hy hx
          subst hy hx
          rw [lexS_cons] at hR
          simp only [List.length_cons] at hlen
          obtain ⟨e, he, hiff⟩ := eqAt_text A.in1 ⟨hp, g, d, tk, os⟩ a t c u
          refine wpAny_bind (he prog w _ _ ?_)
          cases e with
          | true =>
            rw [if_pos (hiff.mp rfl)] at hR
            wp_walk
            exact ⟨rfl, rfl, _, _, _, _, hrest, hvi', hwi', by omega, hR⟩
          | false =>
            rw [if_neg (fun q => absurd (hiff.mpr q) Bool.false_ne_true)] at hR
            have hri := rcLt_str A.in1 ⟨hp, g, d, tk, os⟩ a t c u prog w
            wp_walk using hri
            exact ⟨_, rfl, by simpa using hR⟩
    case fin =>
      rintro ⟨b1, b2⟩ s' ⟨hb', rfl, vs, ws, ns', ms', hz, hvi, hwi, hlen, hR⟩
      simp only at hb'
      subst hb'
      have hv : lexS ns' ms' = decide (items.size < items2.size) := by
        cases hvi with
        | nil =>
          cases hwi with
          | nil =>
            simp only [List.length_nil] at hlen
            rw [lexS_nil_nil]
            exact (decide_eq_false (by omega)).symm
          | cons c u hw =>
            simp only [List.length_nil, List.length_cons] at hlen
            rw [lexS_nil_cons]
            exact (decide_eq_true (by omega)).symm
        | cons a t hv =>
          cases hwi with
          | nil =>
            simp only [List.length_nil, List.length_cons] at hlen
            rw [lexS_cons_nil]
            exact (decide_eq_false (by omega)).symm
          | cons c u hw =>
            rw [List.zip_cons_cons] at hz
            cases hz
      rw [hv] at hR
      wp_walk
      exact ⟨_, rfl, by simpa [Builtin.Tuple.tupleCompareSizes] using hR⟩
    case h =>
      exact ⟨rfl, rfl, items.toList, items2.toList, ns, ms, rfl, hi, hj, by omega, h⟩
end
section
variable {X : Cx}
noncomputable def rLtP : R2 := fun x y H Q => ∃ a b p q, x = .ref a ∧ y = .ref b ∧ H a = some (.tup (pairV p)) ∧ H b = some (.tup (pairV q)) ∧ Q (.bl (ltP p q)) H
theorem op_ltP (hu : X.A.units < cLine) : OpR X (compareOp .Lt) rLtP := by
  intro pins s σ H x y v u Q I rx ry h
  obtain ⟨a, b, p, q, rfl, rfl, ha, hb, k⟩ := h
  cases rx
  cases ry
  obtain ⟨its, r1, p1, _⟩ := I.tuple (.of ha)
  obtain ⟨its2, r2, p2, _⟩ := I.tuple (.of hb)
  obtain ⟨⟨cls, dd, data, sl⟩, ho, hc, n, hd⟩ := id p1
  obtain ⟨⟨cls2, dd2, data2, sl2⟩, ho2, hc2, n2, hd2⟩ := id p2
  simp only at hc hd hc2 hd2
  subst hc hd hc2 hd2
  have i1 : StrsAre its.toArray.toList [p.1, p.2] := strs_of (by simpa [pairV] using r1)
  have i2 : StrsAre its2.toArray.toList [q.1, q.2] := strs_of (by simpa [pairV] using r2)
  exact richCompare_meets_room (op := .Lt) ⟨_, ho, rfl⟩ ⟨_, ho2, rfl⟩ PySem.F.slot_tuple_lt PySem.F.entry_tuple_lt (PySem.F.args_tuple_lt_2 _ _) (tuple_lt_texts a b its.toArray its2.toArray n n2 dd dd2 sl sl2 _ _ i1 i2)
    ⟨ho, ho2, by rw [lexS_pair]; exact (⟨(fun x => nomatch x), ⟨.bl (ltP p q), H, I, rfl, k⟩⟩ : Value.bool (ltP p q) ≠ Value.notImplemented ∧ EP X pins σ Q (.bool (ltP p q)) s)⟩ hu
end
end L2
set_option Elab.async false
set_option linter.all false
set_option maxRecDepth 100000
set_option maxHeartbeats 4000000
namespace L2
open PySem PySem.Spec PyProof.Rows
open PySem.AutoSeq1 (wpAny_loadPart')
theorem enK_new (a v : Value) : checkBuiltinCall "enumerate.__new__" ⟨[.type "enumerate", a], [("start", v)]⟩ = pure () := by kernel_rfl
theorem enK_init (o a v : Value) : argsOk "object.__init__" ⟨[o, a], [("start", v)]⟩ := by
  unfold argsOk
  rw [signature?_of (id := "object.__init__") (n := ['_', '_', 't', 'i', 'n', 'i', '_', '_']) (o := ['t', 'c', 'e', 'j', 'b', 'o']) (by kernel_rfl) F.owner_object]
  kernel_rfl
theorem enK_made (l : Addr) (its : Array Value) (n : Nat) (dc : Option Addr) (sl : Array (Option Value)) (k : Int) (t : Tok) (hk : Builtin.SmallTypes.fitsIndex k = true) :
    Meets (Builtin.«enumerate.__new__» ⟨[.type "enumerate", .ref l], [("start", .int k t)]⟩) (fun _ R u => u.heap.get? l = some { cls := .type "list", dict := dc, data := .seq its n, slots := sl } ∧
      R (.ok (.ret (.ref (u.heap.push { cls := .type "list_iterator", data := .fields #[.ref l, .int 0 0] }).objs.size)))
        { u with heap := (u.heap.push { cls := .type "list_iterator", data := .fields #[.ref l, .int 0 0] }).push { cls := .type "enumerate", data := .fields #[.none, .bool false, .ref u.heap.objs.size, rawInt k, .none, .none] } }) :=
  .of_wp fun prog w A R u h => by
    obtain ⟨hh, ge, dr, tk, so⟩ := u
    obtain ⟨hl, hR⟩ := h
    have hsb := sub_enumerate
    have hL : Heap.IsList (Shared.heap ⟨hh, ge, dr, tk, so⟩) l its := ⟨_, hl, rfl, n, rfl⟩
    wp_walk using wpAny_loadPart' hl
    refine wpAny_stack_any fun st => wpAny_pure ?_
    split
    · rename_i c _ _ _ _ _
      cases (c == Value.type "enumerate")
      · wp_walk using wpAny_loadPart' hl, wpAny_pyIter_list hL
        exact ⟨_, rfl, hR⟩
      · wp_walk using wpAny_loadPart' hl, wpAny_pyIter_list hL
        exact ⟨_, rfl, hR⟩
    · wp_walk using wpAny_loadPart' hl, wpAny_pyIter_list hL
      exact ⟨_, rfl, hR⟩
section
variable {prog : Program} {w : World} {A : Around} {E : Value → Shared → Prop} {s : Shared}
theorem enK_obj {self : Value} {rest : List Value} {kw : List (Str × Value)} : Meets (Builtin.«object.__init__» ⟨self :: rest, kw⟩) (fun _ R u => u.TypeIs self "enumerate" ∧ R (.ok (.ret .none)) u) := by
  have hlk := F.called_enumerate.init.lookup
  have hmd := F.called_enumerate.made
  have hnx : (some "enumerate.__new__" != some "object.__new__") = true := by decide
  refine Meets.of_wp fun prog w A R u hs => ?_
  obtain ⟨hT, hq⟩ := hs
  cases rest with
  | nil =>
    cases kw with
    | nil => exact wpAny_pure ⟨_, rfl, hq⟩
    | cons a r =>
      repeat (any_goals (first | assumption | wp_step))
      exact ⟨_, rfl, hq⟩
  | cons a r =>
    repeat (any_goals (first | assumption | wp_step))
    exact ⟨_, rfl, hq⟩
theorem call_enK {l : Addr} {its : Array Value} {k : Int} {t : Tok} {Q : Value → Shared → Prop} (hL : s.heap.IsList l its) (hk : Builtin.SmallTypes.fitsIndex k = true)
    (h : ∀ h', IsEnum h' (s.heap.objs.size + 1) s.heap.objs.size k .none → h'.IsListIter s.heap.objs.size l 0 → (∀ b o, s.heap.get? b = some o → h'.get? b = some o) → Q (.ref (s.heap.objs.size + 1)) { s with heap := h' }) :
    wpAny (model prog w) A (call (.type "enumerate") [.ref l] [("start", .int k t)]) Q E s := by
  obtain ⟨⟨cc, dc, da, sl⟩, hl, hc, n, hd⟩ := hL
  replace hc : cc = .type "list" := hc
  replace hd : da = .seq its n := hd
  subst hc hd
  have ft := F.called_enumerate
  obtain ⟨c, tl, hmro⟩ := ft.mro
  have hmd := ft.made
  have hsb := ft.sub
  refine wpAny_call (codeAny_of_tree ?_)
  show wpAny _ _ (callAny (.type "enumerate") _) _ _ _
  refine wpAny_pure ⟨Code.quiet_builtin _ (by decide +kernel), codeAny_builtin F.entry_type_call ?_⟩
  rw [Around.under_plain (weight_type_call_type "enumerate" _ _) (units_type_call_type "enumerate" _ _)]
  have h1 := ft.notType
  have h2 := ft.canCreate
  have hz : (s.heap.push { cls := .type "list_iterator", data := .fields #[.ref l, .int 0 0] }).objs.size = s.heap.objs.size + 1 := Heap.size_push ..
  have he : IsEnum ((s.heap.push { cls := .type "list_iterator", data := .fields #[.ref l, .int 0 0] }).push { cls := .type "enumerate", data := .fields #[.none, .bool false, .ref s.heap.objs.size, rawInt k, .none, .none] }) (s.heap.objs.size + 1) s.heap.objs.size k .none := by
    have z := Heap.get?_push_size (s.heap.push { cls := .type "list_iterator", data := .fields #[.ref l, .int 0 0] }) (o := { cls := .type "enumerate", data := .fields #[.none, .bool false, .ref s.heap.objs.size, rawInt k, .none, .none] }) rfl
    rw [hz] at z; exact z
  have hq := h _ he ⟨_, Heap.get?_push_of_some _ (Heap.get?_push_size _ rfl), rfl, rfl⟩ (fun b o x => Heap.get?_push_of_some _ (Heap.get?_push_of_some _ x))
  repeat (any_goals (first | assumption | wp_step))
  refine codeAny_mono (codeAny_call_builtin ft.plain F.entry_enumerate_new (wpAny_of_eq (enK_new _ _) ((enK_made l its n dc sl k t hk) prog w A.in1 (wants (fun obj u => u.TypeIs obj "enumerate" ∧ Q obj u) E) s ⟨hl, ?_⟩))) fun r u hr => ?_
  · rw [hz]
    exact ⟨⟨_, he, rfl⟩, hq⟩
  cases r with
  | error e => exact hr
  | ok fl =>
    cases fl with
    | ret obj =>
      obtain ⟨hT, hq2⟩ := hr
      have hli := ft.init.lookup
      have hbi := ft.init.bind obj
      repeat (any_goals (first | assumption | wp_step))
      refine codeAny_mono (codeAny_call_builtin ft.init.plain F.entry_object_init (ft.init.check _ _ _ _ _ _ _ _ hT (enK_init _ _ _) (enK_obj prog w A.in1 (wants (fun r u2 => r = .none ∧ Q obj u2) E) u ⟨hT, rfl, hq2⟩))) fun r2 u2 hr2 => ?_
      cases r2 with
      | error e => exact hr2
      | ok f2 =>
        cases f2 with
        | ret r =>
          obtain ⟨rfl, hq3⟩ := hr2
          repeat (any_goals (first | assumption | wp_step))
        | _ => exact hr2.elim
    | _ => exact hr.elim
theorem enK_next {e it l : Addr} {i : Nat} {c : Int} {its : Array Value} {x old : Value} {Q : Option Value → Shared → Prop}
    (he : IsEnum s.heap e it c old) (hit : s.heap.IsListIter it l i) (hl : s.heap.IsList l its) (hx : its[i]? = some x) (hne : e ≠ it)
    (hQ : ∀ h', IsEnumOut h' e it (c + 1) x s.heap.objs.size → h'.IsListIter it l (i + 1) → h'.get? s.heap.objs.size = some { cls := .type "tuple", data := .seq #[.int c s.toks, x] } →
      (∀ b o, b ≠ e → b ≠ it → s.heap.get? b = some o → h'.get? b = some o) → Q (some (.ref s.heap.objs.size)) { s with heap := h', toks := s.toks + 1 }) :
    wpAny (model prog w) A (pyNext (.ref e)) Q E s := by
  have hT : s.TypeIs (.ref e) "enumerate" := ⟨_, he, rfl⟩
  unfold pyNext
  refine wpAny_bind (wpAny_attempt (wpAny_callSpecial?_slot (name := Str.ofString "__next__") hT F.slot_enumerate_next (wpAny_call_entry F.slot_enumerate_next hT F.entry_enumerate_next ?_ (F.args_enumerate_next_1 _))))
  obtain ⟨h0, ge, dr, tk, so⟩ := s
  show wpAny _ _ (field (.ref e) 2 >>= _) _ _ _
  refine wpAny_bind (wpAny_field he rfl (x := .ref it) rfl (wpAny_bind (wpAny_nextOf_list_item hit hl hx fun h1 i1 s1 => ?_)))
  replace s1 : Heap.SameBut it h0 h1 := s1
  have e1 : IsEnum h1 e it c old := (s1.2 e hne).trans he
  show wpAny _ _ (field (.ref e) 3 >>= _) _ _ ⟨h1, ge, dr, tk, so⟩
  refine wpAny_bind (wpAny_field e1 rfl (x := rawInt c) rfl ?_)
  show wpAny _ _ (field (.ref e) 4 >>= _) _ _ ⟨h1, ge, dr, tk, so⟩
  refine wpAny_bind (wpAny_field e1 rfl (x := .none) rfl ?_)
  show wpAny _ _ (mkInt c >>= _) _ _ ⟨h1, ge, dr, tk, so⟩
  refine wpAny_bind (wpAny_mkInt ?_)
  show wpAny _ _ (setField (.ref e) 3 (rawInt (c + 1)) >>= _) _ _ ⟨h1, ge, dr, tk + 1, so⟩
  refine wpAny_bind (wpAny_setField_rec e1 (by simp) fun h2 e2 s2 => ?_)
  replace s2 : Heap.SameBut e h1 h2 := s2
  replace e2 : IsEnum h2 e it (c + 1) old := e2
  show wpAny _ _ (setField (.ref e) 4 .none >>= _) _ _ ⟨h2, ge, dr, tk + 1, so⟩
  refine wpAny_bind (wpAny_setField_rec e2 (by simp) fun h3 e3 s3 => ?_)
  replace s3 : Heap.SameBut e h2 h3 := s3
  replace e3 : IsEnum h3 e it (c + 1) old := e3
  show wpAny _ _ (newTuple [.int c tk, x] >>= _) _ _ ⟨h3, ge, dr, tk + 1, so⟩
  refine wpAny_bind (wpAny_newTuple ?_)
  have e4 : IsEnum (h3.push { cls := .type "tuple", data := .seq #[.int c tk, x] }) e it (c + 1) old := Heap.get?_push_of_some _ e3
  generalize hh4 : h3.push { cls := .type "tuple", data := .seq #[.int c tk, x] } = h4 at e4
  have zz : h3.objs.size = h0.objs.size := by rw [s3.1, s2.1, s1.1]
  have lt : e < h0.objs.size := Heap.lt_size he
  have t4 : h4.get? h0.objs.size = some { cls := .type "tuple", data := .seq #[.int c tk, x] } := by
    rw [← hh4, ← zz]; exact Heap.get?_push_size _ rfl
  have k4 : ∀ b o, b ≠ e → b ≠ it → h0.get? b = some o → h4.get? b = some o := fun b o n1 n2 hb => by
    rw [← hh4]
    exact Heap.get?_push_of_some _ (s3.extBut b o n1 (s2.extBut b o n1 (s1.extBut b o n2 hb)))
  have i4 : h4.IsListIter it l (i + 1) := by
    rw [← hh4]
    obtain ⟨o, ho, r⟩ := (i1.extBut s2.extBut (Ne.symm hne)).extBut s3.extBut (Ne.symm hne)
    exact ⟨o, Heap.get?_push_of_some _ ho, r⟩
  show wpAny _ _ (Builtin.SmallTypes.ownedTupleIsFree (.ref e) >>= _) _ _ ⟨h4, ge, dr, tk + 1, so⟩
  rw [zz]
  refine wpAny_bind ?_
  unfold Builtin.SmallTypes.ownedTupleIsFree
  refine wpAny_bind (wpAny_field e4 rfl (x := .none) rfl (wpAny_pure ?_))
  simp only [if_true]
  refine wpAny_bind (wpAny_rule (wpAny_bind (wpAny_field e4 rfl (x := old) rfl ?_)))
  refine wpAny_bind (wpAny_setField_rec e4 (by simp) fun h5 e5 s5 => ?_)
  replace s5 : Heap.SameBut e h4 h5 := s5
  replace e5 : IsEnum h5 e it (c + 1) x := e5
  show wpAny _ _ (Builtin.SmallTypes.ownedTupleHandOut (.ref e) (.ref h0.objs.size) >>= _) _ _ ⟨h5, ge, dr, tk + 1, so⟩
  refine wpAny_bind ?_
  unfold Builtin.SmallTypes.ownedTupleHandOut
  refine wpAny_bind (wpAny_setField_rec e5 (by simp) fun h6 e6 s6 => ?_)
  replace s6 : Heap.SameBut e h5 h6 := s6
  replace e6 : IsEnumOut h6 e it (c + 1) x h0.objs.size := e6
  refine wpAny_setField_rec e6 (by simp) fun h7 e7 s7 => ?_
  replace s7 : Heap.SameBut e h6 h7 := s7
  replace e7 : IsEnumOut h7 e it (c + 1) x h0.objs.size := e7
  refine wpAny_bind (wpAny_letGo (wpAny_pure ⟨_, rfl, wpAny_pure (hQ h7 e7 ?_ ?_ ?_)⟩))
  · exact ((i4.extBut s5.extBut (Ne.symm hne)).extBut s6.extBut (Ne.symm hne)).extBut s7.extBut (Ne.symm hne)
  · exact s7.extBut _ _ (Nat.ne_of_gt lt) (s6.extBut _ _ (Nat.ne_of_gt lt) (s5.extBut _ _ (Nat.ne_of_gt lt) t4))
  · exact fun b o n1 n2 hb => s7.extBut b o n1 (s6.extBut b o n1 (s5.extBut b o n1 (k4 b o n1 n2 hb)))
theorem enK_end {e it l : Addr} {i : Nat} {c : Int} {its : Array Value} {old : Value} {Q : Option Value → Shared → Prop} (hh : A.handled = none) (he : IsEnum s.heap e it c old) (hit : s.heap.IsListIter it l i) (hl : s.heap.IsList l its) (hx : its[i]? = none)
    (hQ : ∀ h', Heap.ExtBut it s.heap h' → Q none { s with heap := h' }) : wpAny (model prog w) A (pyNext (.ref e)) Q E s := by
  have hT : s.TypeIs (.ref e) "enumerate" := ⟨_, he, rfl⟩
  unfold pyNext
  refine wpAny_bind (wpAny_attempt (wpAny_callSpecial?_slot (name := Str.ofString "__next__") hT F.slot_enumerate_next (wpAny_call_entry F.slot_enumerate_next hT F.entry_enumerate_next ?_ (F.args_enumerate_next_1 _))))
  show wpAny _ _ (field (.ref e) 2 >>= _) _ _ _
  refine wpAny_bind (wpAny_field he rfl (x := .ref it) rfl (wpAny_bind (wpAny_nextOf_list_end hh hit hl hx fun h' x he' hx' => ?_)))
  obtain ⟨o, ho, hc⟩ := hx'
  exact wpAny_bind (wpAny_isInstance (T := "StopIteration") (b := true) ⟨o, ho, hc⟩ isSubtype_stop (wpAny_pure (hQ _ he')))
end
theorem Inv.turnedT {X : Cx} {pins : List (Addr × Obj)} {σ : St} {H : Hp} {s : Shared} {h' : Heap} {t' : Nat} {a b T : Addr} {xs : List V} (I : Inv X pins σ H s) (k : ∀ c o, c ≠ a → c ≠ b → s.heap.get? c = some o → h'.get? c = some o)
    (fa : FpOk X pins H a) (fb : FpOk X pins H b) (hT : s.heap.objs.size ≤ T) (new : ObjOk X.prog X.w (upd H T (.tup xs)) h' T (.tup xs)) : Inv X pins σ (upd H T (.tup xs)) { s with heap := h', toks := t' } := by
  have nT : H T = none := I.hok.fresh hT
  have na : ∀ c u, H c = some u → c ≠ a := fun c u e z => by rw [z, fa.1] at e; cases e
  have nb : ∀ c u, H c = some u → c ≠ b := fun c u e z => by rw [z, fb.1] at e; cases e
  have kk : ∀ c o, c ∉ [a, b] → s.heap.get? c = some o → h'.get? c = some o := fun c o hc e => k c o (fun z => hc (by simp [z])) (fun z => hc (by simp [z])) e
  refine I.step (g' := s.gens) (d' := s.drawn) (ch := [a, b]) (fun c hc => ?_) (fun c o _ _ hc e _ => kk c o hc e) (fun c o _ _ hc e _ => ⟨o.slots, kk c o hc e⟩) (fun c o _ e n => by rw [upd_ne (Nat.ne_of_lt (Nat.lt_of_lt_of_le (Heap.lt_size e) hT))]; exact n)
    (fun c o hc e => ⟨o, kk c o hc e⟩) (fun c ys e => by rw [upd_ne (ne_of_none e nT)]; exact e) (fun c o u e => by rw [upd_ne (ne_of_none e nT)]; exact e) (fun c ps e => ⟨#[], by rw [upd_ne (ne_of_none e nT), e]; simp⟩) (fun m hm => ?_) (fun c u e => ?_) I.bare
  · rcases List.mem_cons.mp hc with rfl | hc
    · exact ⟨fa.2.2.2.1, fa.2.1, fa.2.2.2.2.1, fa.2.2.2.2.2⟩
    · rw [List.mem_singleton.mp hc]
      exact ⟨fb.2.2.2.1, fb.2.1, fb.2.2.2.2.1, fb.2.2.2.2.2⟩
  · obtain ⟨o, es, ep, ho, r⟩ := hm
    exact ⟨o, es, ep, k _ o (Ne.symm fa.2.1) (Ne.symm fb.2.1) ho, r⟩
  · by_cases hc : c = T
    · subst hc; rw [upd_same] at e; cases e; exact new
    · rw [upd_ne hc] at e
      refine (I.hok c u e).stay (fun d v hd q => ?_) (fun d q => by rw [upd_ne (ne_of_none q nT)]; exact q) fun d ys q => by rw [upd_ne (ne_of_none q nT)]; exact q
      rcases hd with z | z
      · rw [z] at q ⊢; exact k c v (na c u e) (nb c u e) q
      · exact k d v (na d _ z) (nb d _ z) q
noncomputable def Ite (K : PySem.W.Frag) (a : Addr) (k : Int) : It :=
  ⟨fun i H => ∃ xs x, SqL K H a xs ∧ xs[i]? = some x, fun i H x H' => ∃ T v, x = .ref T ∧ H T = none ∧ H' = upd H T (.tup [.int (k + i), v]) ∧ ∀ xs, SqL K H a xs → xs[i]? = some v, fun i H => ∃ xs, SqL K H a xs ∧ xs.length ≤ i⟩
theorem turn_enum {P : Program} {w : World} {K : PySem.W.Frag} {elts : List Expr} {n : Nat} {tp : Pos} (a e it : Addr) (k : Int) (hne : e ≠ it) : Turn P w K (.Tuple elts n tp) (Ite K a k) [e, it] e (fun i h => (∃ old, IsEnum h e it (k + i) old) ∧ h.IsListIter it a i) where
  mem := by simp
  obj := fun i h st b hb => by
    obtain ⟨⟨old, he⟩, o, ho, c, d⟩ := st
    rcases List.mem_cons.mp hb with rfl | hb
    · exact ⟨_, he, fun v z => by cases z⟩
    · rw [List.mem_singleton.mp hb]
      exact ⟨o, ho, fun v z => by rw [d] at z; cases z⟩
  keep := fun i h h' st kk => ⟨let ⟨old, he⟩ := st.1; ⟨old, kk e (by simp) _ he⟩, st.2.at fun o z => kk it (by simp) o z⟩
  item := by
    intro X hP hw hK hc i pins s σ H E I hf st hg
    subst hP hw hK
    obtain ⟨xs, x, hq, hx⟩ := hg
    obtain ⟨⟨old, he⟩, hit⟩ := st
    obtain ⟨its, rv, p, hz⟩ := I.list hq
    obtain ⟨u, hu, ru⟩ := rv.get hx
    refine enK_next he hit p.isList (x := u) (by simpa using hu) hne fun h' eo it' tt kp => ?_
    refine ⟨_, rfl, wpAny_letOwnedTupleGo_enum eo fun h2 e2 s2 => ?_⟩
    have el : e < s.heap.objs.size := Heap.lt_size he
    have il : it < s.heap.objs.size := by obtain ⟨o, ho, _⟩ := hit; exact Heap.lt_size ho
    have tt2 : h2.get? s.heap.objs.size = some { cls := .type "tuple", data := .seq #[.int (k + i) s.toks, u] } := (s2.2 _ (Nat.ne_of_gt el)).trans tt
    have I1 : Inv X pins σ (upd H s.heap.objs.size (.tup [.int (k + i), x])) { s with heap := h2, toks := s.toks + 1 } := I.turnedT (fun c o n1 n2 z => (s2.2 c n1).trans (kp c o n1 n2 z)) (hf e (by simp)) (hf it (by simp)) (Nat.le_refl _)
      ⟨by show 2 ≤ sizeLine; decide, [.int (k + i) s.toks, u], .cons ⟨_, rfl⟩ (.cons ru .nil), _, tt2, rfl, _, rfl⟩
    refine ⟨.ref s.heap.objs.size, _, I1, rfl, ⟨s.heap.objs.size, x, rfl, I.hok.fresh (Nat.le_refl _), rfl, fun ys hy => by rw [I.list_inj hy hq]; exact hx⟩, ⟨⟨u, by have z := e2; rw [show k + (i : Int) + 1 = k + ((i + 1 : Nat) : Int) by omega] at z; exact z⟩, it'.at fun o z => (s2.2 it (Ne.symm hne)).trans z⟩, fun b hb => ?_⟩
    have bl : b ≠ s.heap.objs.size := by
      rcases List.mem_cons.mp hb with rfl | hb
      · exact Nat.ne_of_lt el
      · rw [List.mem_singleton.mp hb]; exact Nat.ne_of_lt il
    rw [upd_ne bl]
    exact (hf b hb).1
  done := by
    intro X hP hw hK hc i pins s σ H E I hf st hg
    subst hP hw hK
    obtain ⟨xs, hq, hx⟩ := hg
    obtain ⟨⟨old, he⟩, hit⟩ := st
    obtain ⟨its, rv, p, hz⟩ := I.list hq
    obtain ⟨f0, f1, f2, f3, f4, f5⟩ := hf it (by simp)
    have hl := rv.length
    exact enK_end (I.ok.hd hc) he hit p.isList (by simp; omega) fun h' eb => ⟨rfl, I.turned (t' := s.toks) (fun b o hb z => eb b o hb z) f0 f1 f3 f4 f5⟩
  self := fun _ _ _ _ _ st h => by
    obtain ⟨⟨old, he⟩, _⟩ := st
    exact wpAny_pyIter_enum he h
section
variable {X : Cx}
noncomputable def iEnum (K : PySem.W.Frag) (k : Int) (tl : TE) : TI := fun σ H R => tl σ H fun x H1 => ∃ a, x = .ref a ∧ (∃ xs, SqL K H1 a xs) ∧ R (Ite K a k) H1
theorem callWith_enum {pos kp cp : Pos} {k : Int} {l : Expr} {tl : TE} {kd : Nat} {pins : List (Addr × Obj)} {s : Shared} {σ : St} {H : Hp} {R : Value → Shared → Prop} (hl : PE X l tl) (I : Inv X pins σ H s)
    {Pq : VK} (h : tl σ H Pq) (hq : ∀ (x : V) (H1 : Hp), Pq x H1 → ∀ (v : Value) (s1 : Shared) (t : Tok), RelV x v → Inv X pins σ H1 s1 → wpAny (model X.prog X.w) X.A (call (.type "enumerate") [v] [("start", .int k t)]) R X.xe s1)
    (he : starEach [l] X.env = [(false, eval l X.env)] := by rfl) :
    wpAny (model X.prog X.w) X.A (callWith pos (.type "enumerate") [] (backTo pos (starEach [l] X.env)) (backToKw pos (keywordEach [⟨some "start", .Constant (.int k) kd cp, kp⟩] X.env))) R X.xe s := by
  rw [he]
  unfold callWith
  refine wpAny_bind (wpAny_holding (wpAny_mono (evalArgs_kw (Q := fun a s1 => ∃ v t, a = ⟨[v], [("start", .int k t)]⟩ ∧ wpAny (model X.prog X.w) X.A (call (.type "enumerate") [v] [("start", .int k t)]) R X.xe s1) rfl ?_) (fun a s1 h1 => wpAny_bind (wpAny_standAt ?_)) fun _ _ x => x))
  · refine Calls.spliced_cons (thn (hl pins s σ H _ I h) fun v s1 ⟨x, H1, I1, r1, q1⟩ => Calls.spliced_nil ?_)
    refine wpAny_evalAll_cons (wpAny_bind (thn (pe_int pins s1 σ H1 (fun y H2 => y = .int k ∧ H2 = H1) I1 ⟨rfl, rfl⟩) fun u s2 hz68 => ?_))
    obtain ⟨y, H2, I2, r2, q2⟩ := hz68
    refine wpAny_bind (wpAny_standAt (wpAny_pure (wpAny_evalAll_nil ?_)))
    obtain ⟨rfl, rfl⟩ := q2
    obtain ⟨t, rfl⟩ := (show ∃ t, u = Value.int k t from r2)
    exact ⟨v, t, rfl, hq x _ q1 v s2 t r1 I2⟩
  · obtain ⟨v, t, rfl, hw⟩ := h1
    refine wpAny_bind (wpAny_pure ?_)
    exact wpAny_bind (wpAny_mono hw (fun r s2 hr => wpAny_bind (wpAny_holding (wpAny_point (wpAny_pure hr)))) fun _ _ x => x)
theorem pi_enum {elts : List Expr} {n : Nat} {tp : Pos} {p pos kp cp : Pos} {k : Int} {l : Expr} {tl : TE} {kd : Nat} (hk : Builtin.SmallTypes.fitsIndex k = true) (hg : Gl X "enumerate") (hm : X.mg "enumerate" = none) (hl : PE X l tl) (he : starEach [l] X.env = [(false, eval l X.env)] := by rfl) :
    PI X (.Tuple elts n tp) (.Call (.Name "enumerate" p) [l] [⟨some "start", .Constant (.int k) kd cp, kp⟩] pos) (iEnum X.K k tl) := by
  intro pins s σ H R I h
  refine wpAny_Call_Name_kw (ld_blt I hg hm (u := .type "enumerate") rfl ?_)
  refine callWith_enum hl I h (fun x H1 q1 v s1 t r1 I1 => ?_) he
  obtain ⟨a, rfl, ⟨xs, hq⟩, q⟩ := q1
  cases r1
  obtain ⟨its, rv, pl, hz⟩ := I1.list hq
  refine call_enK pl.isList hk fun h' ie il kp' => ?_
  refine wpAny_pyIter_enum ie ?_
  refine ⟨s1.heap.objs.size + 1, [s1.heap.objs.size + 1, s1.heap.objs.size], _, _, H1, rfl, I1.kept (t' := s1.toks) kp', turn_enum a (s1.heap.objs.size + 1) s1.heap.objs.size k (Nat.succ_ne_self _), ⟨⟨.none, by simpa using ie⟩, il⟩, fun b hb => ?_, q⟩
  have hb' : s1.heap.objs.size ≤ b := by
    rcases List.mem_cons.mp hb with rfl | hb
    · exact Nat.le_succ _
    · rw [List.mem_singleton.mp hb]; exact Nat.le_refl _
  exact I1.fpOk hb' (I1.hok.fresh hb')
theorem for_enum {K : PySem.W.Frag} {a : Addr} {k : Int} {xs : List V} {g : TG} {tb : TS} {D : Ends} {σ : St} {H : Hp} (Pv : Nat → St → Hp → Prop) (h0 : Pv 0 σ H) (hl : ∀ i σ H, i ≤ xs.length → Pv i σ H → SqL K H a xs)
    (hs : ∀ i x σ H T, xs[i]? = some x → Pv i σ H → H T = none → g (.ref T) σ (upd H T (.tup [.int (k + i), x])) fun σ2 H2 => tb { D with nx := Pv (i + 1), ct := Pv (i + 1), bk := D.nx } σ2 H2) (hd : ∀ σ H, Pv xs.length σ H → D.nx σ H) :
    ∃ W : Nat → Nat → St → Hp → Prop, (∃ m, W 0 m σ H) ∧ ∀ i m σ H, W i m σ H →
      ((Ite K a k).stop i H ∧ D.nx σ H) ∨ ((Ite K a k).go i H ∧ ∃ N : St → Hp → Prop, (∀ σ' H', N σ' H' → ∃ m', m' < m ∧ W (i + 1) m' σ' H') ∧ ∀ x H', (Ite K a k).yld i H x H' → g x σ H' fun σ2 H2 => tb { D with nx := N, ct := N, bk := D.nx } σ2 H2) := by
  refine ⟨fun i m σ H => m = xs.length - i ∧ i ≤ xs.length ∧ Pv i σ H, ⟨xs.length, by simp, Nat.zero_le _, h0⟩, ?_⟩
  rintro i m σ H ⟨rfl, hi, p⟩
  have q := hl i σ H hi p
  by_cases hlt : i < xs.length
  · refine .inr ⟨⟨xs, xs[i], q, by simp [hlt]⟩, Pv (i + 1), fun σ' H' p' => ⟨xs.length - (i + 1), by omega, rfl, hlt, p'⟩, fun x H' y => ?_⟩
    obtain ⟨T, v, rfl, nT, rfl, y⟩ := y
    exact hs i v σ _ T (y xs q) p nT
  · have e : i = xs.length := by omega
    subst e
    exact .inl ⟨⟨xs, q, Nat.le_refl _⟩, hd σ H p⟩
end
end L2
set_option Elab.async false
set_option linter.all false
set_option maxRecDepth 100000
set_option maxHeartbeats 4000000
namespace K81
open PySem L2
noncomputable def top (i : Nat) : Stmt := PySem.Challenge.pw_treeright_k81_trees_as_texts.main.body.getD i (.Pass ⟨0, 0, 0, 0⟩)
noncomputable abbrev sName : Stmt := top 9
noncomputable abbrev sMixed : Stmt := top 28
noncomputable abbrev sDigits : Stmt := top 29
noncomputable abbrev sNext : Stmt := top 30
noncomputable def Src (H : Hp) (p : Addr) : Prop := ∃ a b c : Int, H p = some (.lst [.int a, .int b, .int c])
noncomputable def LowS (z : Str) : Prop := ∀ c ∈ z.cps.toList, letterB c = true
theorem abc_low : ∀ c ∈ abc.cps.toList, letterB c = true := by decide +kernel
theorem low_app {x y : Str} (h1 : LowS x) (h2 : LowS y) : LowS (x ++ y) := by
  intro c hc
  have e : (x ++ y).cps.toList = x.cps.toList ++ y.cps.toList := by
    show (x.cps ++ y.cps).toList = _
    simp
  rw [e] at hc
  exact (List.mem_append.mp hc).elim (h1 c) (h2 c)
theorem low_one {ch : Nat} (h : ch ∈ abc.cps.toList) : LowS ⟨#[ch]⟩ := fun c hc => by
  have e : c = ch := by simpa using hc
  rw [e]; exact abc_low ch h
theorem low_slice {x : Str} (h : LowS x) (lo hi : Option Int) : LowS (Txt.slice x lo hi) := by
  intro c hc
  unfold Txt.slice at hc
  split at hc
  · exact h c hc
  · simp only [List.mem_filterMap] at hc
    obtain ⟨i, _, e⟩ := hc
    exact h c (by
      rw [← Array.getElem?_toList] at e
      exact List.mem_of_getElem? e)
theorem low_fold : ∀ (zs : List Str) (acc : Array Nat), (∀ c ∈ acc.toList, letterB c = true) → (∀ z ∈ zs, LowS z) → ∀ c ∈ (zs.foldl (fun acc p => acc ++ (Str.ofString "").cps ++ p.cps) acc).toList, letterB c = true
  | [], acc, h, _ => h
  | z :: zs, acc, h, hz => by
    rw [List.foldl_cons]
    refine low_fold zs _ (fun c hc => ?_) fun y hy => hz y (List.mem_cons_of_mem _ hy)
    have hc' : c ∈ acc.toList ++ (Str.ofString "").cps.toList ++ z.cps.toList := by simpa using hc
    rcases List.mem_append.mp hc' with q | q
    · rcases List.mem_append.mp q with q | q
      · exact h c q
      · exact absurd q (by show ¬ c ∈ ([] : List Nat); simp)
    · exact hz z List.mem_cons_self c q
theorem low_join (zs : List Str) (h : ∀ z ∈ zs, LowS z) : LowS (Txt.join (Str.ofString "") zs) := by
  cases zs with
  | nil => intro c hc; exact absurd hc (by show ¬ c ∈ ([] : List Nat); simp)
  | cons z zs =>
    show ∀ c ∈ ((zs.foldl (fun acc p => acc ++ (Str.ofString "").cps ++ p.cps) z.cps)).toList, letterB c = true
    exact low_fold zs _ (h z List.mem_cons_self) fun y hy => h y (List.mem_cons_of_mem _ hy)
theorem name_of {z : Str} (h : LowS z) (h1 : 1 ≤ z.length) (h2 : z.length ≤ 8) : nameS z = true := by
  unfold nameS
  rw [decide_eq_true h1, decide_eq_true h2]
  simp only [Bool.true_and]
  exact List.all_eq_true.mpr h
section
variable {P : Program} {w : World} {K : PySem.W.Frag} {mg : Str → Option Value} {base : Heap} {C : Addr}
noncomputable def spMixed : Sp := fun vs H Q _ => ∃ a k, vs = [.int a, .int k] ∧ ∀ v : Int, 0 ≤ v → v < 2147483629 → Q (.int v) H
theorem scMixed : FnScope ["_law_cell", "_law_k", "_law_number"] ["_law_cell", "_law_k"] (defScope sMixed) := ⟨rfl, rfl, rfl, by decide +kernel, rfl, by decide +kernel, by decide +kernel⟩
theorem okMixed (G : FunG K mg "_law_mixed" sMixed ["_law_cell", "_law_k"]) : Cal P w K mg base CX0 1 "_law_mixed" ["_law_cell", "_law_k"] spMixed := by
  refine G.ok scMixed (fun vs H Q E h => by obtain ⟨a, k, rfl, _⟩ := h; rfl) (fun f cdv A outer s H vs Q E hr h => ?_)
  obtain ⟨a, k, rfl, q⟩ := h
  refine ⟨_, pss_cons (ps_set (i := 2) scMixed.nd rfl (Or.inl rfl) (pe_op op_mod (pe_op op_mul (pe_op op_add (pe_op op_add (pe_op op_mod (pv 0) pe_int) (pe_op op_mul pe_int (pv 1))) pe_int) pe_int) pe_int))
    (pss_cons (ps_set (i := 2) scMixed.nd rfl (Or.inl rfl) (pe_op op_mod (pe_op op_mul (pv 2) (pe_op op_add (pe_op op_fdiv (pv 2) pe_int) pe_int)) pe_int))
    (pss_cons (ps_set (i := 2) scMixed.nd rfl (Or.inl rfl) (pe_op op_mod (pe_op op_mul (pv 2) (pe_op op_add (pe_op op_add (pe_op op_fdiv (pv 2) pe_int) pe_int) (pv 1))) pe_int))
    (pss_one (ps_ret (pe_op op_mod (pe_op op_mul (pv 2) (pe_op op_add (pe_op op_fdiv (pv 2) pe_int) pe_int)) pe_int))))), ?_⟩
  simp [tSeq, tAsg, tRet, tOp, rI, rI0, tVar, tC, gName, L2.start, CMul, CDiv]
  refine ⟨by omega, by omega, by omega, q _ (by omega) (by omega)⟩
noncomputable def spDigits : Sp := fun vs H Q _ => ∃ a, vs = [.int a] ∧ ∀ (p : Addr) (b c d : Int), H p = none → Q (.ref p) (upd H p (.lst [.int b, .int c, .int d]))
theorem scDigits : FnScope ["_law_cell"] ["_law_cell"] (defScope sDigits) := ⟨rfl, rfl, rfl, by decide +kernel, rfl, by decide +kernel, by decide +kernel⟩
theorem okDigits (G : FunG K mg "_law_digits" sDigits ["_law_cell"]) : Cal P w K mg base CX0 1 "_law_digits" ["_law_cell"] spDigits := by
  refine G.ok scDigits (fun vs H Q E h => by obtain ⟨a, rfl, _⟩ := h; rfl) (fun f cdv A outer s H vs Q E hr h => ?_)
  obtain ⟨a, rfl, q⟩ := h
  refine ⟨_, pss_one (ps_ret (pe_lst (pa_cons (pe_op op_mul (pe_op op_fdiv (pv 0) pe_int) (pe_op op_sub pe_int (pe_op op_mod (pv 0) pe_int))) (pa_cons (pv 0) (pa_cons pe_int pa_nil))))), ?_⟩
  simp [tSeq, tAsg, tRet, tOp, rI, rI0, tVar, tC, gName, L2.start, CMul, CDiv, tLst, tCons, tNil]
  refine ⟨by omega, small1000 (by decide) |> Nat.le_of_lt, fun p hp => q p _ _ _ hp⟩
noncomputable def spNext : Sp := fun vs H Q _ => ∃ (p : Addr) (a b c m : Int), vs = [.ref p, .int m] ∧ H p = some (.lst [.int a, .int b, .int c]) ∧ 0 < m ∧ m < 4611686018427387904 ∧
  ∀ v a' c' : Int, 0 ≤ v → v < m → Q (.int v) (upd H p (.lst [.int a', .int b, .int c']))
theorem scNext : FnScope ["_law_source", "_law_many", "_law_found"] ["_law_source", "_law_many"] (defScope sNext) := ⟨rfl, rfl, rfl, by decide +kernel, rfl, by decide +kernel, by decide +kernel⟩
theorem okNext (G : FunG K mg "_law_next" sNext ["_law_source", "_law_many"]) (CM : Cal P w K mg base CX0 1 "_law_mixed" ["_law_cell", "_law_k"] spMixed) : Cal P w K mg base CX0 2 "_law_next" ["_law_source", "_law_many"] spNext := by
  refine G.ok scNext (fun vs H Q E h => by obtain ⟨p, a, b, c, m, rfl, _⟩ := h; rfl) (fun f cdv A outer s H vs Q E hr h => ?_)
  obtain ⟨p, a, b, c, m, rfl, hp, m0, m1, q⟩ := h
  refine ⟨_, pss_cons (ps_if (pt_cmpR op_gt (pe_ix ix_lstH (pv 0) pe_int (fun _ _ => rfl)) pe_int (nomark _))
      (pss_cons (ps_set (i := 2) scNext.nd rfl (Or.inl rfl) (pe_op op_mod (pe_ix ix_lstH (pv 0) pe_int (fun _ _ => rfl)) (pv 1)))
      (pss_cons (ps_asg (pe_op op_fdivB (pe_ix ix_lstH (pv 0) pe_int (fun _ _ => rfl)) (pv 1)) (pg_sub (pv 0) pe_int set_list))
      (pss_one (ps_ret (pv 2))))) pss_nil)
    (pss_cons (ps_asg (pe_op op_add (pe_ix ix_lstH (pv 0) pe_int (fun _ _ => rfl)) pe_int) (pg_sub (pv 0) pe_int set_list))
    (pss_one (ps_ret (pe_op op_mod (pe_cal CM hr (pa_cons (pe_ix ix_lstH (pv 0) pe_int (fun _ _ => rfl)) (pa_cons (pe_ix ix_lstH (pv 0) pe_int (fun _ _ => rfl)) pa_nil))) (pv 1))))), ?_⟩
  simp [tSeq, tAsg, tRet, tOp, rI, rI0, tVar, tC, gName, L2.start, CMul, CDiv, tLst, tCons, tNil, tIfS, tTest, tNext, gSub, rIxH, rSetL, tCall, spMixed, hp, atI, ixN, upd_same, upd_upd]
  refine ite2 (fun h1 => ⟨m0, ⟨m0, m1⟩, q _ _ _ (Int.emod_nonneg _ (by omega)) (Int.emod_lt_of_pos _ m0)⟩) (fun h1 v v0 v1 => ⟨m0, q _ _ _ (Int.emod_nonneg _ (by omega)) (Int.emod_lt_of_pos _ m0)⟩)
noncomputable def GoodN (z : Str) : Prop := nameS z = true ∧ z.length ≤ 8
noncomputable def spName (K : PySem.W.Frag) : Sp := fun vs H Q _ => ∃ (x : V) (T : String), vs = [x] ∧ PlainT K H x T ∧ (∀ z, x = .str z → z.length ≤ 1000) ∧ ∀ H', Keep [] H H' → Q (.bl (nameV x)) H'
theorem scName : FnScope ["thing"] ["thing"] (defScope sName) := ⟨rfl, rfl, rfl, by decide +kernel, rfl, by decide +kernel, by decide +kernel⟩
theorem okName (G : FunG K mg "is_name" sName ["thing"]) (bI : Blt mg "isinstance") (bS : Blt mg "str") (bL : Blt mg "len") (bA : Blt mg "all") (gL : Glo mg "LETTERS" (.str abc)) (g8 : Glo mg "LONGEST_NAME" (.int 8)) :
    Cal P w K mg base CX0 1 "is_name" ["thing"] (spName K) := by
  refine G.ok scName (fun vs H Q E h => by obtain ⟨x, T, rfl, _⟩ := h; rfl) (fun f cdv A outer s H vs Q E hr h => ?_)
  obtain ⟨x, T, rfl, pt, hz, q⟩ := h
  refine ⟨_, pss_cons (ps_if (pt_not (pt_val (pe_blt call_isinst bI bo_isinstance (pa_cons (pv 0) (pa_cons (pe_ty bS bo_str) pa_nil))))) (pss_one (ps_ret pe_bl)) pss_nil)
    (pss_one (ps_ret (pe_and (pe_chain op_le op_le pe_int (pe_blt call_len bL bo_len (pa_cons (pv 0) pa_nil)) (pe_glo g8))
      (pe_one (pe_blt (call_all rfl) bA bo_all (pa_cons (pe_lc1 (N := ["thing"]) (sc := defScope sName) (ix := []) (by decide +kernel) (pi_str (pv 0)) (fun _ _ _ _ => pts_nil)
        (fun C fp s H => pe_cmpR op_in_str (pv 0) (pe_glo gL) (by with_unfolding_all rfl))) pa_nil)))))), ?_⟩
  refine ⟨_, rfl, _, _, _, _, rfl, pt.ty, pt.kit.1, _, rfl, ?_⟩
  cases pt with
  | str z =>
    have hz := hz z rfl
    refine iteF ?_
    refine ⟨_, rfl, _, z.length, rfl, ⟨by rw [sizeLine_eq]; omega, rfl⟩, _, _, rfl, rfl, _, rfl, ?_⟩
    refine ite2 (fun h1 => ?_) (fun h1 => ?_)
    · refine ⟨_, _, rfl, rfl, _, rfl, ?_⟩
      refine ite2 (fun h2 => ?_) (fun h2 => ?_)
      · refine ⟨_, rfl, z, rfl, fun acc ha => ?_⟩
        refine lc_str0 (by rw [sizeLine_eq]; show z.length < _; omega) (fun i ys τ H2 => ∃ (k : Option V), τ = [k] ∧ ys = (z.cps.toList.take i).map (fun c => V.bl (letterB c)) ∧ i ≤ z.cps.size ∧ Keep [acc] H H2 ∧ H2 acc = some (.lst ys)) ?_ ?_ ?_ ?_
        · exact ⟨_, rfl, rfl, Nat.zero_le _, Keep.at (by simp), upd_same⟩
        · rintro i ys τ H2 ⟨k, rfl, rfl, hi, kp, h3⟩
          exact ⟨h3, by simp; omega⟩
        · rintro i ys τ H2 hi ⟨k, rfl, rfl, _, kp, h3⟩
          refine ⟨_, rfl, _, _, rfl, rfl, h3, _, rfl, ?_, hi, kp.trans (Keep.at (by simp)), upd_same⟩
          rw [List.take_add_one, List.map_append]
          congr 1
          have e : z.cps.toList[i]? = some (z.cps.getD i 0) := by
            rw [Array.getElem?_toList, Array.getD_eq_getD_getElem?, Array.getElem?_eq_getElem hi]; rfl
          rw [e]; rfl
        · rintro ys τ H2 ⟨k, rfl, rfl, _, kp, h3⟩
          refine ⟨acc, z.cps.toList.map letterB, rfl, .of ?_, ?_⟩
          · rw [h3, List.take_of_length_le (by simp), List.map_map]; rfl
          · rw [all_map_id]
            have e : nameV (.str z) = z.cps.toList.all letterB := by
              show (decide (1 ≤ z.length) && decide (z.length ≤ 8) && _) = _
              have e1 : 1 ≤ z.length := by have := of_decide_eq_true h1; omega
              have e2 : z.length ≤ 8 := by have := of_decide_eq_true h2; omega
              rw [decide_eq_true e1, decide_eq_true e2]; rfl
            rw [← e]
            exact q _ (kp.drop ha)
      · have e : nameV (.str z) = false := by
          show (decide (1 ≤ z.length) && decide (z.length ≤ 8) && _) = _
          have e2 : ¬ z.length ≤ 8 := fun z' => h2 (decide_eq_true (by omega))
          rw [decide_eq_false e2]; simp
        rw [← e]
        exact q _ (Keep.refl _)
    · refine ⟨_, rfl, iteF ?_⟩
      have e : nameV (.str z) = false := by
        show (decide (1 ≤ z.length) && decide (z.length ≤ 8) && _) = _
        have e2 : ¬ 1 ≤ z.length := fun z' => h1 (decide_eq_true (by omega))
        rw [decide_eq_false e2]; simp
      rw [← e]
      exact q _ (Keep.refl _)
  | _ => exact iteT (q H (Keep.refl _))
theorem stem_turns {xs : List Str} {te : TE} {n : Nat} {σ : St} {H1 : Hp} {Q : VK} {acc p : Addr} {ix : List Nat} {rest : List (Option V)} (hn : n ≤ 100) (hs : Src H1 p) (ha : H1 acc = none)
    (hσ : stC xs ix σ = none :: rest)
    (ht : ∀ (k : V) (H2 : Hp) (R : VK), Src H2 p → (∀ (ch : Nat) (H3 : Hp), ch ∈ abc.cps.toList → Keep [p] H2 H3 → Src H3 p → R (.str ⟨#[ch]⟩) H3) → te (some k :: rest) H2 R)
    (q : ∀ (zs : List Str) (H2 : Hp), zs.length = n → (∀ z ∈ zs, LowS z ∧ z.length = 1) → Keep [p] H1 H2 → Src H2 p → H2 acc = some (.lst (zs.map V.str)) → Q (.ref acc) H2) :
    LCW (Itr 0 n) xs ix (gName 0) tYes te σ H1 acc Q := by
  have pa : acc ≠ p := by
    obtain ⟨a, b, c, h⟩ := hs
    exact Ne.symm (ne_of_none h ha)
  refine lc_range0 (by rw [sizeLine_eq]; omega) (fun i ys τ H2 => ∃ (zs : List Str) (k : Option V), τ = k :: rest ∧ ys = zs.map V.str ∧ zs.length = i ∧ (∀ z ∈ zs, LowS z ∧ z.length = 1) ∧ Keep [acc, p] H1 H2 ∧ Src H2 p ∧ H2 acc = some (.lst ys)) ?_ ?_ ?_ ?_
  · obtain ⟨a, b, c, h⟩ := hs
    exact ⟨[], none, hσ, rfl, rfl, (fun z hz => by cases hz), Keep.at (by simp), ⟨a, b, c, by rw [upd_ne (Ne.symm pa)]; exact h⟩, upd_same⟩
  · rintro i ys τ H2 ⟨zs, k, rfl, rfl, hl, _, _, _, h2⟩
    exact ⟨h2, by rw [List.length_map]; omega⟩
  · rintro i ys τ H2 hi ⟨zs, k, rfl, rfl, hl, h1, kp, hs2, h2⟩
    refine ht _ H2 _ hs2 fun ch H3 hc k3 hz69 => ?_
    obtain ⟨a, b, c, hs3⟩ := hz69
    refine ⟨k3 _ _ (by simp [pa]) h2, zs ++ [⟨#[ch]⟩], _, rfl, by simp, by simp [hl], ?_, (kp.trans (k3.mono (by simp))).trans (Keep.at (by simp)), ⟨a, b, c, by rw [upd_ne (Ne.symm pa)]; exact hs3⟩, upd_same⟩
    intro z hz
    rcases List.mem_append.mp hz with z1 | z1
    · exact h1 z z1
    · rw [List.mem_singleton.mp z1]; exact ⟨low_one hc, rfl⟩
  · rintro ys τ H2 ⟨zs, k, rfl, rfl, hl, h1, kp, hs2, h2⟩
    exact q zs H2 hl h1 (kp.drop ha) hs2 h2
theorem sum_low (zs : List Str) (h : ∀ z ∈ zs, LowS z ∧ z.length = 1) : (zs.map (·.length)).sum = zs.length := sum_ones zs fun z hz => (h z hz).2
end
end K81
set_option Elab.async false
set_option linter.all false
set_option maxRecDepth 100000
set_option maxHeartbeats 4000000
namespace K81
open PySem L2
noncomputable abbrev sOneOf : Stmt := top 10
noncomputable abbrev sAreN : Stmt := top 11
noncomputable abbrev sUnl : Stmt := top 12
noncomputable abbrev sAreH : Stmt := top 13
noncomputable abbrev sTie : Stmt := top 14
noncomputable abbrev sAreT : Stmt := top 15
section
variable {P : Program} {w : World} {K : PySem.W.Frag} {mg : Str → Option Value} {base : Heap} {C : Addr}
theorem scOneOf : FnScope ["thing", "houses"] ["thing", "houses"] (defScope sOneOf) := ⟨rfl, rfl, rfl, by decide +kernel, rfl, by decide +kernel, by decide +kernel⟩
theorem good_len {z : Str} (h : GoodN z) : z.length ≤ 1000 := by have := h.2; omega
theorem in_strs {z : Str} {zs : List Str} (h : z ∈ zs) : inV (.str z) (zs.map V.str) = true := by
  unfold inV
  rw [List.any_map, List.any_eq_true]
  exact ⟨z, h, by simp [eqV]⟩
theorem flat_strs (zs : List Str) : (zs.map V.str).all flatV = true := by
  rw [List.all_map, List.all_eq_true]; exact fun _ _ => rfl
noncomputable def spOneOf : Sp := fun vs H Q _ => ∃ (z : Str) (a : Addr) (zs : List Str), vs = [.str z, .ref a] ∧ H a = some (.lst (zs.map V.str)) ∧ GoodN z ∧ z ∈ zs ∧ ∀ H', Keep [] H H' → Q (.bl true) H'
theorem okOneOf (G : FunG K mg "is_one_of" sOneOf ["thing", "houses"]) (CI : Cal P w K mg base CX0 1 "is_name" ["thing"] (spName K)) : Cal P w K mg base CX0 2 "is_one_of" ["thing", "houses"] spOneOf := by
  refine G.ok scOneOf (fun vs H Q E h => by obtain ⟨z, a, zs, rfl, _⟩ := h; rfl) (fun f cdv A outer s H vs Q E hr h => ?_)
  obtain ⟨z, a, zs, rfl, ha, gz, hm, q⟩ := h
  have hr1 : Room 1 _ := hr
  refine ⟨_, (pss_one (ps_ret (pe_and (pe_cal CI hr1 (pa_cons (pv 0) pa_nil)) (pe_one (pe_cmpR op_in_seq (pv 0) (pv 1) (by with_unfolding_all rfl)))))), ?_⟩
  refine ⟨_, rfl, _, _, rfl, .str z, (fun z' e => by cases e; exact good_len gz), fun H1 k1 => ⟨_, rfl, ?_⟩⟩
  rw [show nameV (.str z) = true from gz.1]
  refine ifT rfl ⟨_, rfl, _, rfl, a, _, rfl, .inl (.of (k1 _ _ (by simp) ha)), rfl, flat_strs zs, ?_⟩
  rw [in_strs hm]
  exact q _ k1
theorem scAreN : FnScope ["thing"] ["thing"] (defScope sAreN) := ⟨rfl, rfl, rfl, by decide +kernel, rfl, by decide +kernel, by decide +kernel⟩
noncomputable def spAreN : Sp := fun vs H Q _ => ∃ (a : Addr) (zs : List Str), vs = [.ref a] ∧ H a = some (.lst (zs.map V.str)) ∧ (∀ z ∈ zs, GoodN z) ∧ zs.length ≤ 1000 ∧ ∀ H', Keep [] H H' → Q (.bl true) H'
theorem okAreN (G : FunG K mg "are_names" sAreN ["thing"]) (CI : Cal P w K mg base CX0 1 "is_name" ["thing"] (spName K)) (b_isinstance : Blt mg "isinstance") (b_list : Blt mg "list") (b_all : Blt mg "all") : Cal P w K mg base CX0 2 "are_names" ["thing"] spAreN := by
  refine G.ok scAreN (fun vs H Q E h => by obtain ⟨a, zs, rfl, _⟩ := h; rfl) (fun f cdv A outer s H vs Q E hr h => ?_)
  obtain ⟨a, zs, rfl, ha, gz, lz, q⟩ := h
  have hr1 : Room 1 _ := hr
  refine ⟨_, (pss_one (ps_ret (pe_and (pe_blt call_isinst b_isinstance bo_isinstance (pa_cons (pv 0) (pa_cons (pe_ty b_list bo_list) pa_nil))) (pe_one (pe_blt (call_all rfl) b_all bo_all (pa_cons (pe_lc1 (N := ["thing"]) (sc := defScope sAreN) (ix := []) (by decide +kernel) (pi_list (pv 0)) (fun _ _ _ _ => pts_nil) (fun _ _ _ _ => (pe_cal CI hr1 (pa_cons (pv 0) pa_nil)))) pa_nil)))))), ?_⟩
  have pt : PlainT K H (.ref a) "list" := .lst ha
  refine ⟨_, rfl, _, _, _, _, rfl, pt.ty, pt.kit.2.2.2.1, _, rfl, ifT rfl ?_⟩
  refine ⟨_, rfl, a, rfl, ⟨_, .of ha⟩, fun acc hacc => ?_⟩
  have aa : a ≠ acc := ne_of_none ha hacc
  refine lc_list0 (K := K) (a := a) (its := zs.map V.str) (by rw [List.length_map, sizeLine_eq]; omega) (fun i ys τ H1 => ∃ k : Option V, τ = [k] ∧ ys = (List.replicate i true).map V.bl ∧ Keep [acc] H H1 ∧ H1 acc = some (.lst ys)) ?_ ?_ ?_ ?_
  · exact ⟨_, rfl, rfl, Keep.at (by simp), upd_same⟩
  · rintro i ys τ H1 ⟨k, rfl, rfl, kp, h1⟩
    exact ⟨h1, by simp, .of (kp _ _ (by simp [aa]) ha)⟩
  · rintro i ys τ H1 x hx ⟨k, rfl, rfl, kp, h1⟩
    obtain ⟨z, hz, rfl⟩ : ∃ z ∈ zs, V.str z = x := List.mem_map.mp (List.mem_of_getElem? hx)
    refine ⟨_, rfl, _, _, rfl, .str z, (fun z' e => by cases e; exact good_len (gz z hz)), fun H2 k2 => ⟨k2 _ _ (by simp) h1, _, rfl, ?_, (kp.trans (k2.mono (by simp))).trans (Keep.at (by simp)), upd_same⟩⟩
    rw [show nameV (.str z) = true from (gz z hz).1, List.replicate_succ', List.map_append]; rfl
  · rintro ys τ H1 ⟨k, rfl, rfl, kp, h1⟩
    refine ⟨acc, List.replicate _ true, rfl, .of h1, ?_⟩
    rw [show (List.replicate (zs.map V.str).length true).all id = true by simp]
    exact q _ (kp.drop hacc)
theorem scUnl : FnScope ["names"] ["names"] (defScope sUnl) := ⟨rfl, rfl, rfl, by decide +kernel, rfl, by decide +kernel, by decide +kernel⟩
noncomputable def spUnl : Sp := fun vs H Q _ => ∃ (a : Addr) (zs : List Str), vs = [.ref a] ∧ H a = some (.lst (zs.map V.str)) ∧ zs.Nodup ∧ zs.length < 1000 ∧ ∀ H', Keep [] H H' → Q (.bl true) H'
theorem okUnl (G : FunG K mg "are_unlike" sUnl ["names"]) (b_len : Blt mg "len") (b_set : Blt mg "set") : Cal P w K mg base CX0 1 "are_unlike" ["names"] spUnl := by
  refine G.ok scUnl (fun vs H Q E h => by obtain ⟨a, zs, rfl, _⟩ := h; rfl) (fun f cdv A outer s H vs Q E hr h => ?_)
  obtain ⟨a, zs, rfl, ha, nd, lz, q⟩ := h
  refine ⟨_, (pss_one (ps_ret (pe_cmpR op_eq (pe_blt call_lenSet b_len bo_len (pa_cons (pe_callTy (call_setS rfl) rfl b_set.no bo_set (pa_cons (pv 0) pa_nil)) pa_nil)) (pe_blt call_len b_len bo_len (pa_cons (pv 0) pa_nil)) (nomark _)))), ?_⟩
  refine ⟨_, rfl, a, zs, rfl, ha, lz, fun p hp => ⟨p, zs, rfl, upd_same, lz, ?_⟩⟩
  have k1 : Keep [] H (upd H p (setO P w p zs)) := Keep.new hp
  refine ⟨_, rfl, _, _, rfl, .inl ⟨_, .of (k1 _ _ (by simp) ha), rfl⟩, rfl, ?_⟩
  rw [manyS_nodup nd, List.length_map]
  rw [show decide (V.int (zs.length : Int) = V.int (zs.length : Int)) = true from decide_eq_true rfl]
  exact q _ k1
theorem scAreH : FnScope ["thing"] ["thing"] (defScope sAreH) := ⟨rfl, rfl, rfl, by decide +kernel, rfl, by decide +kernel, by decide +kernel⟩
noncomputable def spAreH : Sp := fun vs H Q _ => ∃ (a : Addr) (zs : List Str), vs = [.ref a] ∧ H a = some (.lst (zs.map V.str)) ∧ (∀ z ∈ zs, GoodN z) ∧ zs.Nodup ∧ 1 ≤ zs.length ∧ zs.length < 1000 ∧ ∀ H', Keep [] H H' → Q (.bl true) H'
theorem okAreH (G : FunG K mg "are_houses" sAreH ["thing"]) (CAN : Cal P w K mg base CX0 2 "are_names" ["thing"] spAreN) (CAU : Cal P w K mg base CX0 1 "are_unlike" ["names"] spUnl) (b_len : Blt mg "len") : Cal P w K mg base CX0 3 "are_houses" ["thing"] spAreH := by
  refine G.ok scAreH (fun vs H Q E h => by obtain ⟨a, zs, rfl, _⟩ := h; rfl) (fun f cdv A outer s H vs Q E hr h => ?_)
  obtain ⟨a, zs, rfl, ha, gz, nd, l1, lz, q⟩ := h
  have hr1 : Room 1 _ := hr.mono (by decide)
  have hr2 : Room 2 _ := hr
  refine ⟨_, (pss_one (ps_ret (pe_and (pe_cal CAN hr2 (pa_cons (pv 0) pa_nil)) (pe_and (pe_cal CAU hr1 (pa_cons (pv 0) pa_nil)) (pe_one (pe_cmpR op_ge (pe_blt call_len b_len bo_len (pa_cons (pv 0) pa_nil)) pe_int (nomark _))))))), ?_⟩
  refine ⟨_, rfl, a, zs, rfl, ha, gz, by omega, fun H1 k1 => ⟨_, rfl, ifT rfl ?_⟩⟩
  refine ⟨_, rfl, a, zs, rfl, k1 _ _ (by simp) ha, nd, lz, fun H2 k2 => ⟨_, rfl, ifT rfl ?_⟩⟩
  have k12 := k1.trans k2
  refine ⟨_, rfl, _, _, rfl, .inl ⟨_, .of (k12 _ _ (by simp) ha), rfl⟩, _, _, rfl, rfl, ?_⟩
  rw [List.length_map]
  dsimp only
  rw [show decide ((zs.length : Int) ≥ 1) = true from decide_eq_true (by omega)]
  exact q _ k12
theorem scTie : FnScope ["thing", "houses", "one", "other"] ["thing", "houses"] (defScope sTie) := ⟨rfl, rfl, rfl, by decide +kernel, rfl, by decide +kernel, by decide +kernel⟩
noncomputable def spTie : Sp := fun vs H Q _ => ∃ (t a : Addr) (p : Str × Str) (zs : List Str), vs = [.ref t, .ref a] ∧ H t = some (.tup (pairV p)) ∧ H a = some (.lst (zs.map V.str)) ∧ GoodN p.1 ∧ GoodN p.2 ∧ p.1 ∈ zs ∧ p.2 ∈ zs ∧ p.1 ≠ p.2 ∧ ∀ H', Keep [] H H' → Q (.bl true) H'
theorem okTie (G : FunG K mg "is_tie" sTie ["thing", "houses"]) (CO : Cal P w K mg base CX0 2 "is_one_of" ["thing", "houses"] spOneOf) (b_isinstance : Blt mg "isinstance") (b_tuple : Blt mg "tuple") (b_len : Blt mg "len") : Cal P w K mg base CX0 3 "is_tie" ["thing", "houses"] spTie := by
  refine G.ok scTie (fun vs H Q E h => by obtain ⟨t, a, p, zs, rfl, _⟩ := h; rfl) (fun f cdv A outer s H vs Q E hr h => ?_)
  obtain ⟨t, a, ⟨p1, p2⟩, zs, rfl, ht, ha, g1, g2, m1, m2, ne, q⟩ := h
  dsimp only at *
  have ht' : H t = some (.tup [.str p1, .str p2]) := ht
  have hr2 : Room 2 _ := hr
  refine ⟨_, (pss_cons (ps_if (PW.pt (pw_or (pt_not (pt_val (pe_blt call_isinst b_isinstance bo_isinstance (pa_cons (pv 0) (pa_cons (pe_ty b_tuple bo_tuple) pa_nil))))) (pw_or1 (pt_cmpR op_ne (pe_blt call_len b_len bo_len (pa_cons (pv 0) pa_nil)) pe_int (nomark _))))) (pss_one (ps_ret pe_bl)) pss_nil)
      (pss_cons (ps_asg (pv 0) (pg_tup rfl (pgs_cons (pg_name (i := 2) scTie.nd rfl (Or.inl rfl)) (pgs_cons (pg_name (i := 3) scTie.nd rfl (Or.inl rfl)) pgs_nil))))
      (pss_one (ps_ret (pe_and (pe_cal CO hr2 (pa_cons (pv 2) (pa_cons (pv 1) pa_nil))) (pe_and (pe_cal CO hr2 (pa_cons (pv 3) (pa_cons (pv 1) pa_nil))) (pe_one (pe_cmpR op_ne (pv 2) (pv 3) (nomark _))))))))), ?_⟩
  have pt : PlainT K H (.ref t) "tuple" := .tup ht'
  refine ⟨_, rfl, _, _, _, _, rfl, pt.ty, pt.kit.2.2.2.2, _, rfl, ifF rfl ?_⟩
  refine ⟨_, rfl, _, _, rfl, .inr ⟨_, .of ht', rfl⟩, rfl, _, rfl, ifF (by show (!decide (V.int ((2 : Nat) : Int) = V.int 2)) = false; decide) ?_⟩
  refine ⟨_, rfl, t, _, rfl, .of ht', rfl, _, _, rfl, _, _, rfl, rfl, ?_⟩
  refine ⟨_, rfl, _, rfl, p1, a, zs, rfl, ha, g1, m1, fun H1 k1 => ⟨_, rfl, ifT rfl ?_⟩⟩
  refine ⟨_, rfl, _, rfl, p2, a, zs, rfl, k1 _ _ (by simp) ha, g2, m2, fun H2 k2 => ⟨_, rfl, ifT rfl ?_⟩⟩
  refine ⟨_, rfl, _, rfl, rfl, ?_⟩
  rw [show (!decide (V.str p1 = V.str p2)) = true by simpa using ne]
  exact q _ (k1.trans k2)
theorem scAreT : FnScope ["thing", "houses"] ["thing", "houses"] (defScope sAreT) := ⟨rfl, rfl, rfl, by decide +kernel, rfl, by decide +kernel, by decide +kernel⟩
noncomputable def TieOk (zs : List Str) (p : Str × Str) : Prop := p.1 ∈ zs ∧ p.2 ∈ zs ∧ p.1 ≠ p.2
noncomputable def spAreT : Sp := fun vs H Q _ => ∃ (b a : Addr) (ps : List (Str × Str)) (zs : List Str), vs = [.ref b, .ref a] ∧ Rows H b (ps.map pairV) ∧ H a = some (.lst (zs.map V.str)) ∧ (∀ z ∈ zs, GoodN z) ∧ (∀ p ∈ ps, TieOk zs p) ∧ ps.length + 1 = zs.length ∧ zs.length ≤ 1000 ∧ ∀ H', Keep [] H H' → Q (.bl true) H'
theorem okAreT (G : FunG K mg "are_ties" sAreT ["thing", "houses"]) (CT : Cal P w K mg base CX0 3 "is_tie" ["thing", "houses"] spTie) (b_isinstance : Blt mg "isinstance") (b_list : Blt mg "list") (b_len : Blt mg "len") (b_all : Blt mg "all") : Cal P w K mg base CX0 4 "are_ties" ["thing", "houses"] spAreT := by
  refine G.ok scAreT (fun vs H Q E h => by obtain ⟨b, a, ps, zs, rfl, _⟩ := h; rfl) (fun f cdv A outer s H vs Q E hr h => ?_)
  obtain ⟨b, a, ps, zs, rfl, ⟨qs, hb, hq⟩, ha, gz, tz, lp, lz, q⟩ := h
  have hr3 : Room 3 _ := hr
  have lq := paired_len hq
  rw [List.length_map] at lq
  refine ⟨_, (pss_cons (ps_if (PW.pt (pw_or (pt_not (pt_val (pe_blt call_isinst b_isinstance bo_isinstance (pa_cons (pv 0) (pa_cons (pe_ty b_list bo_list) pa_nil))))) (pw_or1 (pt_cmpR op_ne (pe_blt call_len b_len bo_len (pa_cons (pv 0) pa_nil)) (pe_op op_sub (pe_blt call_len b_len bo_len (pa_cons (pv 1) pa_nil)) pe_int) (nomark _))))) (pss_one (ps_ret pe_bl)) pss_nil)
      (pss_one (ps_ret (pe_blt (call_all rfl) b_all bo_all (pa_cons (pe_lc1 (N := ["thing", "houses"]) (sc := defScope sAreT) (ix := [1]) (by decide +kernel) (pi_list (pv 0)) (fun _ _ _ _ => pts_nil) (fun _ _ _ _ => (pe_cal CT hr3 (pa_cons (pv 0) (pa_cons (pv 1) pa_nil))))) pa_nil))))), ?_⟩
  have pt : PlainT K H (.ref b) "list" := .lst hb
  refine ⟨_, rfl, _, _, _, _, rfl, pt.ty, pt.kit.2.2.2.1, _, rfl, ifF rfl ?_⟩
  refine ⟨_, rfl, _, _, rfl, .inl ⟨_, .of hb, rfl⟩, _, rfl, _, _, rfl, .inl ⟨_, .of ha, rfl⟩, _, _, rfl, rfl, rfl, _, rfl, ifF ?_ ?_⟩
  · rw [List.length_map, List.length_map]
    simp; omega
  refine ⟨_, rfl, b, rfl, ⟨_, .of hb⟩, fun acc hacc => ?_⟩
  have ba : b ≠ acc := ne_of_none hb hacc
  have aa : a ≠ acc := ne_of_none ha hacc
  refine lc_list0 (K := K) (a := b) (its := qs.map V.ref) (by rw [List.length_map, sizeLine_eq]; omega) (fun i ys τ H1 => ∃ k : Option V, τ = [k, some (.ref a)] ∧ ys = (List.replicate i true).map V.bl ∧ Keep [acc] H H1 ∧ H1 acc = some (.lst ys)) ?_ ?_ ?_ ?_
  · exact ⟨_, rfl, rfl, Keep.at (by simp), upd_same⟩
  · rintro i ys τ H1 ⟨k, rfl, rfl, kp, h1⟩
    exact ⟨h1, by simp, .of (kp _ _ (by simp [ba]) hb)⟩
  · rintro i ys τ H1 x hx ⟨k, rfl, rfl, kp, h1⟩
    rw [List.getElem?_map] at hx
    cases et : qs[i]? with
    | none => rw [et] at hx; cases hx
    | some t =>
    rw [et] at hx
    have ex : V.ref t = x := Option.some.inj hx
    subst ex
    obtain ⟨r, er, ht⟩ := paired_get hq i t et
    rw [List.getElem?_map] at er
    cases ep : ps[i]? with
    | none => rw [ep] at er; cases er
    | some p =>
    rw [ep] at er
    have er' : pairV p = r := Option.some.inj er
    subst er'
    obtain ⟨m1, m2, ne⟩ := tz p (List.mem_of_getElem? ep)
    have ta : t ≠ acc := ne_of_none ht hacc
    refine ⟨_, rfl, _, rfl, t, a, p, zs, rfl, kp _ _ (by simp [ta]) ht, kp _ _ (by simp [aa]) ha, gz _ m1, gz _ m2, m1, m2, ne, fun H2 k2 => ⟨k2 _ _ (by simp) h1, _, rfl, ?_, (kp.trans (k2.mono (by simp))).trans (Keep.at (by simp)), upd_same⟩⟩
    rw [List.replicate_succ', List.map_append]; rfl
  · rintro ys τ H1 ⟨k, rfl, rfl, kp, h1⟩
    refine ⟨acc, List.replicate _ true, rfl, .of h1, ?_⟩
    rw [show (List.replicate (qs.map V.ref).length true).all id = true by simp]
    exact q _ (kp.drop hacc)
end
end K81
set_option Elab.async false
set_option linter.all false
set_option maxRecDepth 100000
set_option maxHeartbeats 4000000
namespace K81
open PySem L2
noncomputable def dz (zs : List Str) (f : Str → V) : List (Key × V) := zs.map fun z => (Sum.inr z, f z)
theorem val_dz {zs : List Str} {f : Str → V} {z : Str} (h : z ∈ zs) : valV (dz zs f) (Sum.inr z) = some (f z) := by
  unfold dz
  induction zs with
  | nil => cases h
  | cons y zs ih =>
    rw [List.map_cons]
    by_cases e : y = z
    · subst e; exact valV_pos rfl
    · have hz : z ∈ zs := by rcases List.mem_cons.mp h with q | q; exact absurd q.symm e; exact q
      rw [valV_neg (by simpa using e)]
      exact ih hz
theorem val_dz_no {zs : List Str} {f : Str → V} {z : Str} (h : z ∉ zs) : valV (dz zs f) (Sum.inr z) = none := by
  unfold dz
  induction zs with
  | nil => rfl
  | cons y zs ih =>
    have e : y ≠ z := fun e => h (by simp [e])
    rw [List.map_cons, valV_neg (by simpa using e)]
    exact ih fun q => h (List.mem_cons_of_mem _ q)
theorem put_dz {zs : List Str} {f : Str → V} {z : Str} {v : V} (h : z ∉ zs) : putK (dz zs f) (Sum.inr z) v = dz (zs ++ [z]) (fun y => if y = z then v else f y) := by
  have no : ((dz zs f).any fun kv => decide (kv.1 = Sum.inr z)) = false := by
    unfold dz
    rw [List.any_map, List.any_eq_false]
    intro y hy
    simp only [Function.comp]
    simp
    rintro rfl; exact h hy
  unfold putK
  rw [no, if_neg (by simp)]
  unfold dz
  rw [List.map_append]
  congr 1
  · refine List.map_congr_left fun y hy => ?_
    have e : y ≠ z := fun e => h (e ▸ hy)
    show _ = (Sum.inr y, if y = z then v else f y)
    rw [if_neg e]
  · simp
theorem dz_congr {zs : List Str} {f g : Str → V} (h : ∀ z ∈ zs, f z = g z) : dz zs f = dz zs g := List.map_congr_left fun z hz => by rw [h z hz]
noncomputable def rawN (ps : List (Str × Str)) (z : Str) : List Str := ps.flatMap fun p => if p.1 = z then [p.2] else if p.2 = z then [p.1] else []
theorem rawN_snoc (ps : List (Str × Str)) (p : Str × Str) (z : Str) : rawN (ps ++ [p]) z = rawN ps z ++ (if p.1 = z then [p.2] else if p.2 = z then [p.1] else []) := by
  unfold rawN; rw [List.flatMap_append]; simp
theorem rawN_len (ps : List (Str × Str)) (z : Str) : (rawN ps z).length ≤ ps.length := by
  induction ps with
  | nil => exact Nat.le_refl _
  | cons p ps ih =>
    have e : rawN (p :: ps) z = (if p.1 = z then [p.2] else if p.2 = z then [p.1] else []) ++ rawN ps z := by unfold rawN; rw [List.flatMap_cons]
    rw [e, List.length_append, List.length_cons]
    have : (if p.1 = z then [p.2] else if p.2 = z then [p.1] else [] : List Str).length ≤ 1 := by split <;> (try split) <;> simp
    omega
structure NearAt (H : Hp) (nd : Addr) (zs : List Str) (ps : List (Str × Str)) (L : Str → Addr) (N : Str → List Str) : Prop where
  d : H nd = some (.dK (dz zs fun z => .ref (L z)))
  l : ∀ z ∈ zs, H (L z) = some (.lst ((N z).map V.str))
  p : ∀ z ∈ zs, (N z).Perm (rawN ps z)
  s : ∀ z ∈ zs, Asc ltS (N z)
noncomputable abbrev sTied : Stmt := top 16
section
variable {P : Program} {w : World} {K : PySem.W.Frag} {mg : Str → Option Value} {base : Heap} {C : Addr}
theorem scTied : FnScope ["houses", "ties", "near", "one", "other"] ["houses", "ties"] (defScope sTied) := ⟨rfl, rfl, rfl, by decide +kernel, rfl, by decide +kernel, by decide +kernel⟩
noncomputable def spTied : Sp := fun vs H Q _ => ∃ (a b : Addr) (ps : List (Str × Str)) (zs : List Str), vs = [.ref a, .ref b] ∧ H a = some (.lst (zs.map V.str)) ∧ Rows H b (ps.map pairV) ∧ zs.Nodup ∧ (∀ p ∈ ps, TieOk zs p) ∧ ps.length < 60 ∧ zs.length < 60 ∧
  ∀ (nd : Addr) (L : Str → Addr) (N : Str → List Str) (H' : Hp), H nd = none → (∀ z ∈ zs, H (L z) = none) → NearAt H' nd zs ps L N → Keep [] H H' → Q (.ref nd) H'
theorem okTied (G : FunG K mg "tied_to_each" sTied ["houses", "ties"]) (b_sorted : Blt mg "sorted") : Cal P w K mg base CX0 1 "tied_to_each" ["houses", "ties"] spTied := by
  refine G.ok scTied (fun vs H Q E h => by obtain ⟨a, b, ps, zs, rfl, _⟩ := h; rfl) (fun f cdv A outer s H vs Q E hr h => ?_)
  obtain ⟨a, b, ps, zs, rfl, ha, ⟨qs, hb, hq⟩, nd0, tz, lp, lz, q⟩ := h
  have hu := hu_of hr
  have lq := paired_len hq
  rw [List.length_map] at lq
  refine ⟨_, (pss_cons (ps_set (i := 2) scTied.nd rfl (Or.inr rfl) (pe_dc1 (N := ["houses", "ties", "near", "one", "other"]) (sc := defScope sTied) (ix := []) (by decide +kernel) (pi_list (pv 0)) (fun _ _ _ _ => pts_nil) (fun _ _ _ _ => (pv 0)) (fun _ _ _ _ => (pe_lst pa_nil))))
      (pss_cons (ps_for PassesOwn.never rfl (pi_list (pv 1)) (pg_tup rfl (pgs_cons (pg_name (i := 3) scTied.nd rfl (Or.inl rfl)) (pgs_cons (pg_name (i := 4) scTied.nd rfl (Or.inl rfl)) pgs_nil))) (pss_cons (ps_expr (pe_bm PySem.F.plainAttrs_list PySem.F.slot_list_append PySem.F.type_list_append mt_append (pe_dget hu (pv 2) (pv 3) (fun _ _ => rfl)) (pa_cons (pv 4) pa_nil)))
      (pss_one (ps_expr (pe_bm PySem.F.plainAttrs_list PySem.F.slot_list_append PySem.F.type_list_append mt_append (pe_dget hu (pv 2) (pv 4) (fun _ _ => rfl)) (pa_cons (pv 3) pa_nil))))))
      (pss_one (ps_ret (pe_dc1 (N := ["houses", "ties", "near", "one", "other"]) (sc := defScope sTied) (ix := [2]) (by decide +kernel) (pi_list (pv 0)) (fun _ _ _ _ => pts_nil) (fun _ _ _ _ => (pv 0)) (fun _ _ _ _ => (pe_blt call_sortedS b_sorted bo_sorted (pa_cons (pe_dget hu (pv 1) (pv 0) (fun _ _ => rfl)) pa_nil)))))))), ?_⟩
  refine ⟨_, rfl, a, rfl, ⟨_, .of ha⟩, fun d0 hd0 => ?_⟩
  have ad : a ≠ d0 := ne_of_none ha hd0
  refine dc_list0 (K := K) (a := a) (its := zs.map V.str) (by rw [List.length_map, sizeLine_eq]; omega) (fun i ys τ H1 => i ≤ zs.length ∧ ∃ (L : Str → Addr) (k : Option V), τ = [k] ∧ ys = dz (zs.take i) (fun z => .ref (L z)) ∧ (∀ z ∈ zs.take i, H1 (L z) = some (.lst []) ∧ H (L z) = none ∧ L z ≠ d0) ∧
    (∀ y ∈ zs.take i, ∀ z ∈ zs.take i, L y = L z → y = z) ∧ Keep [d0] H H1 ∧ H1 d0 = some (.dK ys)) ?_ ?_ ?_ ?_
  · exact ⟨Nat.zero_le _, fun _ => 0, _, rfl, rfl, (fun z hz => by cases hz), (fun y hy => by cases hy), Keep.at (by simp), upd_same⟩
  · rintro i ys τ H1 ⟨hi, L, k, rfl, rfl, _, _, kp, h1⟩
    exact ⟨h1, by unfold dz; rw [List.length_map, List.length_take]; omega, .of (kp _ _ (by simp [ad]) ha)⟩
  · rintro i ys τ H1 x hx ⟨hi, L, k, rfl, rfl, hl, inj, kp, h1⟩
    rw [List.getElem?_map] at hx
    cases ez : zs[i]? with
    | none => rw [ez] at hx; cases hx
    | some z =>
    rw [ez] at hx
    have ex : V.str z = x := Option.some.inj hx
    subst ex
    have il : i < zs.length := (List.getElem?_eq_some_iff.mp ez).1
    have tk : zs.take (i + 1) = zs.take i ++ [z] := by rw [List.take_add_one, ez]; rfl
    have nin : z ∉ zs.take i := fun hm => by
      have := nd0.sublist (List.take_sublist (i + 1) zs)
      rw [tk] at this
      exact (List.nodup_append.mp this).2.2 z hm z (by simp) rfl
    refine ⟨_, rfl, Nat.zero_le _, fun l hln => ⟨Sum.inr z, rfl, ?_, ?_⟩⟩
    · exact (Keep.new (S := []) hln) _ _ (by simp) h1
    have ld : l ≠ d0 := Ne.symm (ne_of_none h1 hln)
    rw [put_dz nin]
    refine ⟨il, fun y => if y = z then l else L y, _, rfl, ?_, ?_, ?_, (kp.trans (Keep.new hln)).trans (Keep.at (by simp)), upd_same⟩
    · rw [tk]
      refine dz_congr fun y _ => ?_
      dsimp only
      by_cases e : y = z
      · rw [if_pos e, if_pos e]
      · rw [if_neg e, if_neg e]
    · intro y hy
      rw [tk] at hy
      dsimp only
      by_cases e : y = z
      · rw [if_pos e]
        exact ⟨by rw [upd_ne ld, upd_same], kp.none (by simp [ld]) hln, ld⟩
      · rw [if_neg e]
        have hy' : y ∈ zs.take i := by rcases List.mem_append.mp hy with q | q; exact q; exact absurd (List.mem_singleton.mp q) e
        obtain ⟨g1, g2, g3⟩ := hl y hy'
        exact ⟨by rw [upd_ne g3, upd_ne (ne_of_none g1 hln)]; exact g1, g2, g3⟩
    · intro x hx y hy exy
      rw [tk] at hx hy
      dsimp only at exy
      have alt : ∀ u ∈ zs.take i ++ [z], u = z ∨ u ∈ zs.take i := fun u hu => by
        rcases List.mem_append.mp hu with q | q
        · exact .inr q
        · exact .inl (List.mem_singleton.mp q)
      rcases alt x hx with rfl | hx' <;> rcases alt y hy with rfl | hy'
      · rfl
      · have ny : y ≠ x := fun e => nin (e ▸ hy')
        rw [if_pos rfl, if_neg ny] at exy
        rw [exy] at hln; rw [(hl y hy').1] at hln; cases hln
      · have nx : x ≠ y := fun e => nin (e ▸ hx')
        rw [if_neg nx, if_pos rfl] at exy
        rw [← exy] at hln; rw [(hl x hx').1] at hln; cases hln
      · have nx : x ≠ z := fun e => nin (e ▸ hx')
        have ny : y ≠ z := fun e => nin (e ▸ hy')
        rw [if_neg nx, if_neg ny] at exy
        exact inj x hx' y hy' exy
  rintro ys τ H1 ⟨_, L, kk, rfl, rfl, hl, inj, kp, h1⟩
  rw [List.length_map, List.take_length] at hl inj h1
  have k1 : Keep [] H H1 := kp.drop hd0
  have ha1 := k1 _ _ (by simp) ha
  have hb1 := k1 _ _ (by simp) hb
  have out : ∀ {u : Addr} {o : HO}, H u = some o → u ∉ zs.map L := fun {u o} hu hm => by
    obtain ⟨z, hz, rfl⟩ := List.mem_map.mp hm
    rw [(hl z hz).2.1] at hu; cases hu
  have dout : d0 ∉ zs.map L := fun hm => by
    obtain ⟨z, hz, e⟩ := List.mem_map.mp hm
    exact (hl z hz).2.2 e
  refine ⟨_, rfl, b, rfl, ⟨_, .of hb1⟩, for_list (K := K) (a := b) (xs := qs.map V.ref) (fun i σ H2 => i ≤ ps.length ∧ ∃ (v3 v4 : Option V), σ = [some (.ref a), some (.ref b), some (.ref d0), v3, v4] ∧ (∀ z ∈ zs, H2 (L z) = some (.lst ((rawN (ps.take i) z).map V.str))) ∧ Keep (zs.map L) H1 H2)
    ⟨Nat.zero_le _, _, _, rfl, (fun z hz => (hl z hz).1), Keep.refl _⟩ (fun i σ H2 _ ⟨_, _, _, _, _, k2⟩ => .of (k2 _ _ (out hb) hb1)) ?_ ?_⟩
  · rintro i y σ H2 hi ⟨hip, v3, v4, rfl, hn, k2⟩
    rw [List.getElem?_map] at hi
    cases et : qs[i]? with
    | none => rw [et] at hi; cases hi
    | some t =>
    rw [et] at hi
    have ex : V.ref t = y := Option.some.inj hi
    subst ex
    obtain ⟨r, er, ht⟩ := paired_get hq i t et
    rw [List.getElem?_map] at er
    cases ep : ps[i]? with
    | none => rw [ep] at er; cases er
    | some p =>
    rw [ep] at er
    have er' : pairV p = r := Option.some.inj er
    subst er'
    obtain ⟨p1, p2⟩ := p
    obtain ⟨m1, m2, ne⟩ := tz _ (List.mem_of_getElem? ep)
    dsimp only at m1 m2 ne
    have il : i < ps.length := (List.getElem?_eq_some_iff.mp ep).1
    have ht2 : H2 t = some (.tup [.str p1, .str p2]) := k2 _ _ (out ht) (k1 _ _ (by simp) ht)
    have tk : ps.take (i + 1) = ps.take i ++ [(p1, p2)] := by rw [List.take_add_one, ep]; rfl
    have hd2 := k2 _ _ dout h1
    have len : ∀ z, ((rawN (ps.take i) z).map V.str).length < sizeLine := fun z => by
      have := rawN_len (ps.take i) z
      rw [List.length_map, sizeLine_eq]; rw [List.length_take] at this; omega
    have l12 : L p1 ≠ L p2 := fun e => ne (inj p1 m1 p2 m2 e)
    refine ⟨t, _, rfl, .of ht2, rfl, _, _, rfl, _, _, rfl, rfl, ?_⟩
    refine ⟨_, rfl, _, rfl, d0, _, rfl, by have z := DGet.k (k := Sum.inr p1) hd2; rw [val_dz m1] at z; exact z, (show tyV _ "list" (.ref (L p1)) _ from Or.inl ⟨rfl, _, .of (hn p1 m1)⟩), _, rfl, L p1, _, _, rfl, rfl, hn p1 m1, len p1, ?_⟩
    have hd3 : upd H2 (L p1) (.lst ((rawN (ps.take i) p1).map V.str ++ [.str p2])) d0 = some (.dK (dz zs fun z => .ref (L z))) := by
      rw [upd_ne (hl p1 m1).2.2.symm]; exact hd2
    have hn3 : upd H2 (L p1) (.lst ((rawN (ps.take i) p1).map V.str ++ [.str p2])) (L p2) = some (.lst ((rawN (ps.take i) p2).map V.str)) := by
      rw [upd_ne l12.symm]; exact hn p2 m2
    refine ⟨_, rfl, _, rfl, d0, _, rfl, by have z := DGet.k (k := Sum.inr p2) hd3; rw [val_dz m2] at z; exact z, (show tyV _ "list" (.ref (L p2)) _ from Or.inl ⟨rfl, _, .of hn3⟩), _, rfl, L p2, _, _, rfl, rfl, hn3, len p2, ?_⟩
    refine ⟨il, _, _, rfl, fun z hz => ?_, k2.trans ((Keep.at (List.mem_map.mpr ⟨p1, m1, rfl⟩)).trans (Keep.at (List.mem_map.mpr ⟨p2, m2, rfl⟩)))⟩
    rw [tk, rawN_snoc]
    dsimp only
    by_cases e2 : p2 = z
    · subst e2
      rw [upd_same, if_neg ne, if_pos rfl, List.map_append]; rfl
    · have n2 : L z ≠ L p2 := fun e => e2 (inj z hz p2 m2 e).symm
      rw [upd_ne n2]
      by_cases e1 : p1 = z
      · subst e1
        rw [upd_same, if_pos rfl, List.map_append]; rfl
      · have n1 : L z ≠ L p1 := fun e => e1 (inj z hz p1 m1 e).symm
        rw [upd_ne n1, if_neg e1, if_neg e2, List.append_nil]
        exact hn z hz
  rintro σ H2 ⟨_, v3, v4, rfl, hn, k2⟩
  rw [List.length_map, lq, List.take_length] at hn
  have ha2 := k2 _ _ (out ha) ha1
  have hd2 := k2 _ _ dout h1
  have k02 : Keep [] H H2 := k1.under k2 (fun u hm => by
    obtain ⟨z, hz, rfl⟩ := List.mem_map.mp hm
    exact (hl z hz).2.1)
  refine ⟨_, rfl, a, rfl, ⟨_, .of ha2⟩, fun nd hnd => ?_⟩
  have an : a ≠ nd := ne_of_none ha2 hnd
  have dn : d0 ≠ nd := ne_of_none hd2 hnd
  refine dc_list0 (K := K) (a := a) (its := zs.map V.str) (by rw [List.length_map, sizeLine_eq]; omega) (fun i ys τ H3 => i ≤ zs.length ∧ ∃ (M : Str → Addr) (N : Str → List Str) (k : Option V), τ = [k, some (.ref d0)] ∧ ys = dz (zs.take i) (fun z => .ref (M z)) ∧ (∀ z ∈ zs.take i, H3 (M z) = some (.lst ((N z).map V.str)) ∧ H2 (M z) = none ∧ M z ≠ nd ∧ (N z).Perm (rawN ps z) ∧ Asc ltS (N z)) ∧
    Keep [nd] H2 H3 ∧ H3 nd = some (.dK ys)) ?_ ?_ ?_ ?_
  · exact ⟨Nat.zero_le _, fun _ => 0, fun _ => [], _, rfl, rfl, (fun z hz => by cases hz), Keep.at (by simp), upd_same⟩
  · rintro i ys τ H3 ⟨hi, M, N, k, rfl, rfl, _, kp3, h3⟩
    exact ⟨h3, by unfold dz; rw [List.length_map, List.length_take]; omega, .of (kp3 _ _ (by simp [an]) ha2)⟩
  · rintro i ys τ H3 x hx ⟨hi, M, N, k, rfl, rfl, hm, kp3, h3⟩
    rw [List.getElem?_map] at hx
    cases ez : zs[i]? with
    | none => rw [ez] at hx; cases hx
    | some z =>
    rw [ez] at hx
    have ex : V.str z = x := Option.some.inj hx
    subst ex
    have il : i < zs.length := (List.getElem?_eq_some_iff.mp ez).1
    have hz : z ∈ zs := List.mem_of_getElem? ez
    have tk : zs.take (i + 1) = zs.take i ++ [z] := by rw [List.take_add_one, ez]; rfl
    have nin : z ∉ zs.take i := fun hm => by
      have := nd0.sublist (List.take_sublist (i + 1) zs)
      rw [tk] at this
      exact (List.nodup_append.mp this).2.2 z hm z (by simp) rfl
    have hd3 := kp3 _ _ (by simp [dn]) hd2
    have lzn : L z ≠ nd := ne_of_none (hn z hz) hnd
    have hl3 := kp3 _ _ (by simp [lzn]) (hn z hz)
    refine ⟨_, rfl, _, rfl, _, rfl, d0, _, rfl, by have y := DGet.k (k := Sum.inr z) hd3; rw [val_dz hz] at y; exact y, L z, rawN ps z, rfl, hl3, by have := rawN_len ps z; omega, fun l ys' hln hp hs => ⟨Sum.inr z, rfl, ?_, ?_⟩⟩
    · exact (Keep.new (S := []) hln) _ _ (by simp) h3
    have ld : l ≠ nd := Ne.symm (ne_of_none h3 hln)
    rw [put_dz nin]
    refine ⟨il, fun y => if y = z then l else M y, fun y => if y = z then ys' else N y, _, rfl, ?_, ?_, (kp3.trans (Keep.new hln)).trans (Keep.at (by simp)), upd_same⟩
    · rw [tk]
      refine dz_congr fun y _ => ?_
      dsimp only
      by_cases e : y = z
      · rw [if_pos e, if_pos e]
      · rw [if_neg e, if_neg e]
    · intro y hy
      rw [tk] at hy
      dsimp only
      by_cases e : y = z
      · subst e
        rw [if_pos rfl, if_pos rfl]
        exact ⟨by rw [upd_ne ld, upd_same], kp3.none (by simp [ld]) hln, ld, hp, hs⟩
      · rw [if_neg e, if_neg e]
        have hy' : y ∈ zs.take i := by rcases List.mem_append.mp hy with q | q; exact q; exact absurd (List.mem_singleton.mp q) e
        obtain ⟨g1, g2, g3, g4, g5⟩ := hm y hy'
        exact ⟨by rw [upd_ne g3, upd_ne (ne_of_none g1 hln)]; exact g1, g2, g3, g4, g5⟩
  rintro ys τ H3 ⟨_, M, N, k, rfl, rfl, hm, kp3, h3⟩
  rw [List.length_map, List.take_length] at hm h3
  have k23 : Keep [] H2 H3 := kp3.drop hnd
  exact q nd M N H3 (k02.none (by simp) hnd) (fun z hz => k02.none (by simp) (hm z hz).2.1) ⟨h3, fun z hz => (hm z hz).1, fun z hz => (hm z hz).2.2.2.1, fun z hz => (hm z hz).2.2.2.2⟩ (k02.trans k23)
end
end K81
set_option Elab.async false
set_option linter.all false
set_option maxRecDepth 100000
set_option maxHeartbeats 4000000
namespace K81
open PySem L2
theorem nodup_le : ∀ {ks zs : List Str}, ks.Nodup → (∀ y ∈ ks, y ∈ zs) → ks.length ≤ zs.length := by
  intro ks
  induction ks with
  | nil => intro zs _ _; exact Nat.zero_le _
  | cons k ks ih =>
    intro zs nd h
    have nk := (List.nodup_cons.mp nd).1
    have hk := h k List.mem_cons_self
    have := ih (zs := zs.erase k) (List.nodup_cons.mp nd).2 (fun y hy => by
      have ne : y ≠ k := fun e => nk (e ▸ hy)
      exact (List.mem_erase_of_ne ne).mpr (h y (List.mem_cons_of_mem _ hy)))
    rw [List.length_erase_of_mem hk] at this
    have l0 := List.length_pos_of_mem hk
    rw [List.length_cons]; omega
structure Led (zs : List Str) (N : Str → List Str) (goal : Str) (ks : List Str) (nx : Str → Str) : Prop where
  nd : ks.Nodup
  g : goal ∈ ks
  z : ∀ y ∈ ks, y ∈ zs
  o : ∀ i y, ks[i]? = some y → y ≠ goal → nx y ∈ ks.take i ∧ y ∈ N (nx y)
theorem Led.snoc {zs : List Str} {N : Str → List Str} {goal : Str} {ks : List Str} {nx : Str → Str} (h : Led zs N goal ks nx) {o here : Str} (no : o ∉ ks) (oz : o ∈ zs) (hh : here ∈ ks) (on : o ∈ N here) :
    Led zs N goal (ks ++ [o]) (fun y => if y = o then here else nx y) := by
  refine ⟨?_, List.mem_append_left _ h.g, ?_, ?_⟩
  · refine List.nodup_append.mpr ⟨h.nd, List.nodup_cons.mpr ⟨by simp, List.nodup_nil⟩, ?_⟩
    intro a ha b hb e
    exact no (List.mem_singleton.mp hb ▸ e ▸ ha)
  · intro y hy
    rcases List.mem_append.mp hy with q | q
    · exact h.z y q
    · rw [List.mem_singleton.mp q]; exact oz
  · intro i y hy ng
    by_cases il : i < ks.length
    · rw [List.getElem?_append_left il] at hy
      have ne : y ≠ o := fun e => no (e ▸ List.mem_of_getElem? hy)
      rw [if_neg ne, List.take_append_of_le_length (by omega)]
      exact h.o i y hy ng
    · rw [List.getElem?_append_right (by omega)] at hy
      have i0 : i - ks.length = 0 := by
        cases e : i - ks.length with
        | zero => rfl
        | succ k => rw [e] at hy; simp at hy
      rw [i0] at hy
      have e : o = y := by simpa using hy
      subst e
      have il' : i = ks.length := by omega
      subst il'
      rw [if_pos rfl, List.take_append_of_le_length (Nat.le_refl _), List.take_length]
      exact ⟨hh, on⟩
noncomputable def stp (goal : Str) (nx : Str → Str) (y : Str) : V := if y = goal then .non else .str (nx y)
theorem put_stp {goal : Str} {nx : Str → Str} {ks : List Str} {o here : Str} (no : o ∉ ks) (g : goal ∈ ks) : putK (dz ks (stp goal nx)) (Sum.inr o) (.str here) = dz (ks ++ [o]) (stp goal (fun y => if y = o then here else nx y)) := by
  rw [put_dz no]
  refine dz_congr fun y _ => ?_
  unfold stp
  have og : o ≠ goal := fun e => no (e ▸ g)
  by_cases e : y = o
  · subst e; rw [if_pos rfl, if_neg og]; dsimp only; rw [if_pos rfl]
  · rw [if_neg e]; dsimp only; rw [if_neg e]
theorem dz_len (ks : List Str) (f : Str → V) : (dz ks f).length = ks.length := List.length_map _
noncomputable abbrev sSteps : Stmt := top 17
section
variable {P : Program} {w : World} {K : PySem.W.Frag} {mg : Str → Option Value} {base : Heap} {C : Addr}
theorem scSteps : FnScope ["near", "goal", "steps", "fresh", "here", "other"] ["near", "goal"] (defScope sSteps) := ⟨rfl, rfl, rfl, by decide +kernel, rfl, by decide +kernel, by decide +kernel⟩
noncomputable def StepW (H : Hp) (nd sd fl : Addr) (goal : Str) (zs : List Str) (N : Str → List Str) (m : Nat) (σ : St) (H1 : Hp) : Prop := ∃ (ks fs : List Str) (nx : Str → Str) (v4 v5 : Option V), σ = [some (.ref nd), some (.str goal), some (.ref sd), some (.ref fl), v4, v5] ∧ m = 2 * (zs.length - ks.length) + fs.length ∧ Led zs N goal ks nx ∧ (∀ y ∈ fs, y ∈ ks) ∧ fs.length ≤ ks.length ∧
    (∀ z ∈ ks, z ∉ fs → ∀ y ∈ N z, y ∈ ks) ∧ Keep [sd, fl] H H1 ∧ H1 sd = some (.dK (dz ks (stp goal nx))) ∧ H1 fl = some (.lst (fs.map V.str))
noncomputable def spSteps : Sp := fun vs H Q _ => ∃ (nd : Addr) (zs : List Str) (ps : List (Str × Str)) (L : Str → Addr) (N : Str → List Str) (goal : Str), vs = [.ref nd, .str goal] ∧ NearAt H nd zs ps L N ∧ zs.length < 60 ∧ goal ∈ zs ∧ (∀ z ∈ zs, ∀ y ∈ N z, y ∈ zs) ∧
  ∀ (sd : Addr) (ks : List Str) (nx : Str → Str) (H' : Hp), H sd = none → Led zs N goal ks nx → (∀ z ∈ ks, ∀ y ∈ N z, y ∈ ks) → H' sd = some (.dK (dz ks (stp goal nx))) → Keep [] H H' → Q (.ref sd) H'
theorem okSteps (G : FunG K mg "steps_toward" sSteps ["near", "goal"]) : Cal P w K mg base CX0 1 "steps_toward" ["near", "goal"] spSteps := by
  refine G.ok scSteps (fun vs H Q E h => by obtain ⟨nd, zs, ps, L, N, goal, rfl, _⟩ := h; rfl) (fun f cdv A outer s H vs Q E hr h => ?_)
  obtain ⟨nd, zs, ps, L, N, goal, rfl, na, lz, gz, nz, q⟩ := h
  have hu := hu_of hr
  refine ⟨_, (pss_cons (ps_set (i := 2) scSteps.nd rfl (Or.inl rfl) (pe_disp (pps_cons (pv 1) pe_non pps_nil) rfl rfl (by simp) (by decide)))
      (pss_cons (ps_set (i := 3) scSteps.nd rfl (Or.inl rfl) (pe_lst (pa_cons (pv 1) pa_nil)))
      (pss_cons (ps_while PassesOwn.never (pt_truth (pv 3) (fun _ => rfl)) (pss_cons (ps_set (i := 4) scSteps.nd rfl (Or.inl rfl) (pe_bm0 PySem.F.plainAttrs_list PySem.F.slot_list_pop PySem.F.type_list_pop mt_pop (pv 3)))
      (pss_one (ps_for PassesOwn.never rfl (pi_list (pe_dget hu (pv 0) (pv 4) (fun _ _ => rfl))) (pg_name (i := 5) scSteps.nd rfl (Or.inl rfl)) (pss_one (ps_if (pt_cmp (pc_dnotin hu (pv 5) (pv 2))) (pss_cons (ps_dput hu (pv 2) (pv 5) (pv 4) rfl)
      (pss_one (ps_expr (pe_bm PySem.F.plainAttrs_list PySem.F.slot_list_append PySem.F.type_list_append mt_append (pv 3) (pa_cons (pv 5) pa_nil))))) pss_nil))))))
      (pss_one (ps_ret (pv 2)))))), ?_⟩
  intro sd hsd
  refine ⟨_, rfl, upd_same, [(Sum.inr goal, .non)], rfl, by simp, ?_⟩
  rw [upd_upd]
  refine ⟨_, rfl, by simp [sizeLine_eq], fun fl hfl => ?_⟩
  have fs0 : fl ≠ sd := fun e => by rw [e, upd_same] at hfl; cases hfl
  have hfl0 : H fl = none := by rw [upd_ne fs0] at hfl; exact hfl
  refine ⟨StepW H nd sd fl goal zs N, ⟨_, [goal], [goal], fun _ => goal, _, _, rfl, rfl, ⟨by simp, by simp, (fun y hy => by rw [List.mem_singleton.mp hy]; exact gz), ?_⟩, (fun y hy => hy), Nat.le_refl _, (fun z hz nz => absurd hz nz), ?_, ?_, upd_same⟩, ?_⟩
  · intro i y hy ng
    exact absurd (List.mem_singleton.mp (List.mem_of_getElem? hy)) ng
  · exact (Keep.at (by simp)).trans (Keep.at (by simp))
  · rw [upd_ne fs0.symm, upd_same]
    show some (HO.dK [(Sum.inr goal, V.non)]) = some (HO.dK [(Sum.inr goal, if goal = goal then .non else .str goal)])
    rw [if_pos rfl]
  rintro m σ H1 ⟨ks, fs, nx, v4, v5, rfl, rfl, led, fk, fle, cl, kp, h1, hf⟩
  have sf : sd ≠ fl := fs0.symm
  rcases List.eq_nil_or_concat fs with rfl | ⟨fs, here, e⟩
  · refine ⟨_, rfl, _, .inl ⟨_, .of hf, rfl⟩, ifF rfl ?_⟩
    refine ⟨_, rfl, ?_⟩
    refine q sd ks nx H1 hsd led (fun z hz => cl z hz (by simp)) h1 ?_
    intro u o hu ho
    refine kp u o ?_ ho
    have n1 : u ≠ sd := fun e => by rw [e, hsd] at ho; cases ho
    have n2 : u ≠ fl := fun e => by rw [e, hfl0] at ho; cases ho
    simp [n1, n2]
  rw [List.concat_eq_append] at e
  subst e
  refine ⟨_, rfl, _, .inl ⟨_, .of hf, rfl⟩, ifT (by simp) ?_⟩
  have hk : here ∈ ks := fk here (by simp)
  have hz : here ∈ zs := led.z _ hk
  have ef : (fs ++ [here]).map V.str = fs.map V.str ++ [.str here] := by rw [List.map_append]; rfl
  rw [ef] at hf
  rw [List.length_append] at fle
  have fle' : fs.length + 1 ≤ ks.length := fle
  have out : ∀ {u : Addr} {o : HO}, H u = some o → u ∉ [sd, fl] := fun {u o} ho => by
    have n1 : u ≠ sd := fun e => by rw [e, hsd] at ho; cases ho
    have n2 : u ≠ fl := fun e => by rw [e, hfl0] at ho; cases ho
    simp [n1, n2]
  refine ⟨fun σ' H' => ∃ m', m' < 2 * (zs.length - ks.length) + (fs ++ [here]).length ∧ StepW H nd sd fl goal zs N m' σ' H', fun _ _ h => h, ?_⟩
  refine ⟨_, rfl, Or.inl ⟨rfl, _, .of hf⟩, fl, _, .str here, rfl, rfl, hf, by simp, ?_⟩
  rw [show (fs.map V.str ++ [V.str here]).dropLast = fs.map V.str from List.dropLast_concat]
  have kp1 : Keep [sd, fl] H (upd H1 fl (.lst (fs.map V.str))) := kp.trans (Keep.at (by simp))
  refine ⟨_, rfl, _, rfl, nd, _, rfl, by have z := DGet.k (k := Sum.inr here) (kp1 _ _ (out na.d) na.d); rw [val_dz hz] at z; exact z, L here, rfl, ⟨_, .of (kp1 _ _ (out (na.l here hz)) (na.l here hz))⟩, ?_⟩
  refine for_list (K := K) (a := L here) (xs := (N here).map V.str) (fun i σ H2 => ∃ (ks2 fs2 : List Str) (nx2 : Str → Str) (v5 : Option V), σ = [some (.ref nd), some (.str goal), some (.ref sd), some (.ref fl), some (.str here), v5] ∧
    2 * (zs.length - ks2.length) + fs2.length < 2 * (zs.length - ks.length) + (fs ++ [here]).length ∧ Led zs N goal ks2 nx2 ∧ here ∈ ks2 ∧ (∀ y ∈ fs2, y ∈ ks2) ∧ fs2.length ≤ ks2.length ∧ (∀ z ∈ ks2, z ∉ fs2 → z ≠ here → ∀ y ∈ N z, y ∈ ks2) ∧ (∀ y ∈ (N here).take i, y ∈ ks2) ∧
    Keep [sd, fl] H H2 ∧ H2 sd = some (.dK (dz ks2 (stp goal nx2))) ∧ H2 fl = some (.lst (fs2.map V.str))) ?_ (fun i σ H2 _ ⟨_, _, _, _, _, _, _, _, _, _, _, _, k2, _⟩ => .of (k2 _ _ (out (na.l here hz)) (na.l here hz))) ?_ ?_
  · refine ⟨ks, fs, nx, _, rfl, by simp, led, hk, (fun y hy => fk y (List.mem_append_left _ hy)), by omega, ?_, (fun y hy => by simp at hy), kp1, ?_, upd_same⟩
    · intro z hz' nf ne
      refine cl z hz' fun hm => ?_
      rcases List.mem_append.mp hm with a | a
      · exact nf a
      · exact ne (List.mem_singleton.mp a)
    · rw [upd_ne sf]; exact h1
  · rintro i y σ H2 hi ⟨ks2, fs2, nx2, v5, rfl, ml, led2, hk2, fk2, fl2, cl2, tk2, kp2, h2, hf2⟩
    rw [List.getElem?_map] at hi
    cases eo : (N here)[i]? with
    | none => rw [eo] at hi; cases hi
    | some o =>
    rw [eo] at hi
    have ex : V.str o = y := Option.some.inj hi
    subst ex
    have on : o ∈ N here := List.mem_of_getElem? eo
    have oz : o ∈ zs := nz here hz o on
    have tk : (N here).take (i + 1) = (N here).take i ++ [o] := by rw [List.take_add_one, eo]; rfl
    by_cases ok : o ∈ ks2
    · refine ⟨_, rfl, _, rfl, sd, _, rfl, DGet.k (k := Sum.inr o) h2, _, rfl, ?_⟩
      rw [val_dz ok]
      refine ifF rfl ?_
      refine ⟨ks2, fs2, nx2, _, rfl, ml, led2, hk2, fk2, fl2, cl2, ?_, kp2, h2, hf2⟩
      intro y hy
      rw [tk] at hy
      rcases List.mem_append.mp hy with a | a
      · exact tk2 y a
      · rw [List.mem_singleton.mp a]; exact ok
    · refine ⟨_, rfl, _, rfl, sd, _, rfl, DGet.k (k := Sum.inr o) h2, _, rfl, ?_⟩
      rw [val_dz_no ok]
      refine ifT rfl ?_
      have led3 := led2.snoc ok oz hk2 on
      have l3 := nodup_le led3.nd led3.z
      rw [List.length_append] at l3
      have l3' : ks2.length + 1 ≤ zs.length := l3
      refine ⟨_, rfl, _, rfl, _, rfl, sd, _, rfl, DPut.k (k := Sum.inr o) h2 (by rw [dz_len, sizeLine_eq]; omega), ?_⟩
      rw [put_stp ok led2.g]
      have hf3 : upd H2 sd (.dK (dz (ks2 ++ [o]) (stp goal (fun y => if y = o then here else nx2 y)))) fl = some (.lst (fs2.map V.str)) := by rw [upd_ne sf.symm]; exact hf2
      refine ⟨_, rfl, Or.inl ⟨rfl, _, .of hf3⟩, _, rfl, fl, _, _, rfl, rfl, hf3, by rw [List.length_map, sizeLine_eq]; omega, ?_⟩
      refine ⟨ks2 ++ [o], fs2 ++ [o], _, _, rfl, ?_, led3, List.mem_append_left _ hk2, ?_, by rw [List.length_append, List.length_append]; omega, ?_, ?_, (kp2.trans (Keep.at (by simp))).trans (Keep.at (by simp)), by rw [upd_ne sf, upd_same], by rw [upd_same, List.map_append]; rfl⟩
      · have e1 : (ks2 ++ [o]).length = ks2.length + 1 := by simp
        have e2 : (fs2 ++ [o]).length = fs2.length + 1 := by simp
        rw [e1, e2]
        omega
      · intro y hy
        rcases List.mem_append.mp hy with a | a
        · exact List.mem_append_left _ (fk2 y a)
        · exact List.mem_append_right _ a
      · intro z hz' nf ne y hy
        rcases List.mem_append.mp hz' with a | a
        · exact List.mem_append_left _ (cl2 z a (fun b => nf (List.mem_append_left _ b)) ne y hy)
        · exact absurd (List.mem_append_right _ a) nf
      · intro y hy
        rw [tk] at hy
        rcases List.mem_append.mp hy with a | a
        · exact List.mem_append_left _ (tk2 y a)
        · exact List.mem_append_right _ a
  · rintro σ H2 ⟨ks2, fs2, nx2, v5, rfl, ml, led2, hk2, fk2, fl2, cl2, tk2, kp2, h2, hf2⟩
    rw [List.length_map, List.take_length] at tk2
    refine ⟨_, ml, ks2, fs2, nx2, _, _, rfl, rfl, led2, fk2, fl2, ?_, kp2, h2, hf2⟩
    intro z hz' nf
    by_cases e : z = here
    · subst e; exact tk2
    · exact cl2 z hz' nf e
end
end K81
set_option Elab.async false
set_option linter.all false
set_option maxRecDepth 100000
set_option maxHeartbeats 4000000
namespace K81
open PySem L2
noncomputable def normP (p : Str × Str) : Str × Str := (minS p.1 p.2, maxS p.1 p.2)
theorem norm_is (p : Str × Str) : normP p = p ∨ normP p = (p.2, p.1) := by
  obtain ⟨a, b⟩ := p
  unfold normP minS maxS
  cases h1 : ltS b a with
  | true =>
    have h2 : ltS a b = false := ltS_asym h1
    right; simp [h1, h2]
  | false =>
    cases h2 : ltS a b with
    | true => left; simp [h1, h2]
    | false =>
      have e := ltS_tot h1 h2
      subst e
      left; simp [h1]
theorem tie_norm {zs : List Str} {p : Str × Str} (h : TieOk zs p) : TieOk zs (normP p) := by
  obtain ⟨a, b, c⟩ := h
  rcases norm_is p with e | e <;> rw [e]
  · exact ⟨a, b, c⟩
  · exact ⟨b, a, fun e => c e.symm⟩
noncomputable def Conn (zs : List Str) (ps : List (Str × Str)) : Prop := ∀ (P : Str → Prop) (z0 : Str), z0 ∈ zs → P z0 → (∀ t ∈ ps, P t.1 ↔ P t.2) → ∀ z ∈ zs, P z
theorem conn_norm {zs zs' : List Str} {ps ps' : List (Str × Str)} (h : Conn zs ps) (pz : zs'.Perm zs) (pp : ps'.Perm (ps.map normP)) : Conn zs' ps' := by
  intro P z0 hz p0 each z hz'
  refine h P z0 (pz.mem_iff.mp hz) p0 (fun t ht => ?_) z (pz.mem_iff.mp hz')
  have := each (normP t) (pp.mem_iff.mpr (List.mem_map.mpr ⟨t, ht, rfl⟩))
  rcases norm_is t with e | e
  · rw [e] at this; exact this
  · rw [e] at this; exact this.symm
theorem raw_1 {ps : List (Str × Str)} {t : Str × Str} (h : t ∈ ps) : t.2 ∈ rawN ps t.1 := by
  unfold rawN
  exact List.mem_flatMap.mpr ⟨t, h, by rw [if_pos rfl]; exact List.mem_singleton.mpr rfl⟩
theorem raw_2 {ps : List (Str × Str)} {t : Str × Str} (h : t ∈ ps) (n : t.1 ≠ t.2) : t.1 ∈ rawN ps t.2 := by
  unfold rawN
  exact List.mem_flatMap.mpr ⟨t, h, by rw [if_neg n, if_pos rfl]; exact List.mem_singleton.mpr rfl⟩
theorem raw_in {zs : List Str} {ps : List (Str × Str)} (tz : ∀ p ∈ ps, TieOk zs p) {z y : Str} (h : y ∈ rawN ps z) : y ∈ zs := by
  unfold rawN at h
  obtain ⟨t, ht, hy⟩ := List.mem_flatMap.mp h
  obtain ⟨a, b, _⟩ := tz t ht
  by_cases e1 : t.1 = z
  · rw [if_pos e1] at hy; rw [List.mem_singleton.mp hy]; exact b
  · rw [if_neg e1] at hy
    by_cases e2 : t.2 = z
    · rw [if_pos e2] at hy; rw [List.mem_singleton.mp hy]; exact a
    · rw [if_neg e2] at hy; cases hy
theorem led_all {zs : List Str} {ps : List (Str × Str)} {N : Str → List Str} {goal : Str} {ks : List Str} {nx : Str → Str} (cn : Conn zs ps) (tz : ∀ p ∈ ps, TieOk zs p) (nd : zs.Nodup) (pn : ∀ z ∈ zs, (N z).Perm (rawN ps z)) (led : Led zs N goal ks nx) (cl : ∀ z ∈ ks, ∀ y ∈ N z, y ∈ ks) :
    (∀ z ∈ zs, z ∈ ks) ∧ ks.length = zs.length := by
  have all : ∀ z ∈ zs, z ∈ ks := cn (· ∈ ks) goal (led.z _ led.g) led.g fun t ht => by
    obtain ⟨a, b, c⟩ := tz t ht
    exact ⟨fun h => cl t.1 h t.2 ((pn t.1 a).mem_iff.mpr (raw_1 ht)), fun h => cl t.2 h t.1 ((pn t.2 b).mem_iff.mpr (raw_2 ht c))⟩
  exact ⟨all, Nat.le_antisymm (nodup_le led.nd led.z) (nodup_le nd all)⟩
noncomputable def tfl (nl pl nd : Addr) : List (Str × V) := [("names", .ref nl), ("pairs", .ref pl), ("near", .ref nd)]
theorem tn1 : ¬ (("names" : Str) = "pairs") := by decide +kernel
theorem tn2 : ¬ (("names" : Str) = "near") := by decide +kernel
theorem tn3 : ¬ (("pairs" : Str) = "near") := by decide +kernel
theorem tput (nl pl nd : Addr) : putF "near" (.ref nd) (putF "pairs" (.ref pl) (putF "names" (.ref nl) [])) = tfl nl pl nd := by
  unfold tfl
  simp only [putF, if_neg tn1, if_neg tn2, if_neg tn3]
noncomputable def tf2 (nl pl : Addr) : List (Str × V) := [("names", .ref nl), ("pairs", .ref pl)]
theorem tput2 (nl pl : Addr) : putF "pairs" (.ref pl) (putF "names" (.ref nl) []) = tf2 nl pl := by
  unfold tf2
  simp only [putF, if_neg tn1]
structure TreeT (K : PySem.W.Frag) (C : Addr) : Prop where
  cl : Cls K C
  nN : NoAttr K C "names"
  nP : NoAttr K C "pairs"
  nR : NoAttr K C "near"
noncomputable def TreeAt (B : Hp) (C : Addr) (H : Hp) (p : Addr) (zs : List Str) (ps : List (Str × Str)) : Prop := ∃ (dx nl pl nd : Addr) (L : Str → Addr) (N : Str → List Str), (B nl = none ∧ B pl = none ∧ B nd = none ∧ ∀ z ∈ zs, B (L z) = none) ∧
  H p = some (.ins C dx (tfl nl pl nd)) ∧ H nl = some (.lst (zs.map V.str)) ∧ Rows H pl (ps.map pairV) ∧ NearAt H nd zs ps L N
theorem paired_far {S : List Addr} {H H' : Hp} (k : Keep S H H') (n : ∀ b ∈ S, ∀ xs, H b ≠ some (.tup xs)) {qs : List Addr} {rows : List (List V)} (h : Paired (fun q r => H q = some (.tup r)) qs rows) : Paired (fun q r => H' q = some (.tup r)) qs rows := by
  induction h with
  | nil => exact .nil
  | cons e _ ih => exact .cons (k _ _ (fun z => n _ z _ e) e) ih
theorem TreeAt.keep {B : Hp} {C : Addr} {H H' : Hp} {p : Addr} {zs : List Str} {ps : List (Str × Str)} {S : List Addr} (h : TreeAt B C H p zs ps) (k : Keep S H H') (hS : ∀ b ∈ S, b ≠ p ∧ B b ≠ none ∧ ∀ xs, H b ≠ some (.tup xs)) : TreeAt B C H' p zs ps := by
  obtain ⟨dx, nl, pl, nd, L, N, ⟨b1, b2, b3, b4⟩, h1, h2, ⟨qs, h3, h4⟩, h5⟩ := h
  have far : ∀ {u : Addr}, B u = none → u ∉ S := fun {u} hb hm => (hS u hm).2.1 hb
  exact ⟨dx, nl, pl, nd, L, N, ⟨b1, b2, b3, b4⟩, k _ _ (fun hm => (hS p hm).1 rfl) h1, k _ _ (far b1) h2, ⟨qs, k _ _ (far b2) h3, paired_far k (fun b hb => (hS b hb).2.2) h4⟩,
    ⟨k _ _ (far b3) h5.d, fun z hz => k _ _ (far (b4 z hz)) (h5.l z hz), h5.p, h5.s⟩⟩
theorem TreeAt.on {B : Hp} {C : Addr} {H H' : Hp} {p : Addr} {zs : List Str} {ps : List (Str × Str)} (h : TreeAt B C H p zs ps) (k : Keep [] H H') : TreeAt B C H' p zs ps := h.keep k fun b hb => by cases hb
theorem TreeAt.base {B B' : Hp} {C : Addr} {H : Hp} {p : Addr} {zs : List Str} {ps : List (Str × Str)} (h : TreeAt B C H p zs ps) (k : ∀ u, B u = none → B' u = none) : TreeAt B' C H p zs ps := by
  obtain ⟨dx, nl, pl, nd, L, N, ⟨b1, b2, b3, b4⟩, r⟩ := h
  exact ⟨dx, nl, pl, nd, L, N, ⟨k _ b1, k _ b2, k _ b3, fun z hz => k _ (b4 z hz)⟩, r⟩
noncomputable abbrev sInit : Stmt := inClass (top 18) 0
noncomputable abbrev sHouses : Stmt := inClass (top 18) 1
noncomputable abbrev sTies : Stmt := inClass (top 18) 2
section
variable {P : Program} {w : World} {K : PySem.W.Frag} {mg : Str → Option Value} {base : Heap} {C : Addr}
theorem scInit : FnScope ["self", "houses", "ties"] ["self", "houses", "ties"] (defScope sInit) := ⟨rfl, rfl, rfl, by decide +kernel, rfl, by decide +kernel, by decide +kernel⟩
theorem scHouses : FnScope ["self"] ["self"] (defScope sHouses) := ⟨rfl, rfl, rfl, by decide +kernel, rfl, by decide +kernel, by decide +kernel⟩
theorem scTies : FnScope ["self"] ["self"] (defScope sTies) := ⟨rfl, rfl, rfl, by decide +kernel, rfl, by decide +kernel, by decide +kernel⟩
noncomputable def spInit (C : Addr) : Sp := fun vs H Q _ => ∃ (p dx a b : Addr) (zs : List Str) (ps : List (Str × Str)), vs = [.ref p, .ref a, .ref b] ∧ H p = some (.ins C dx []) ∧ H a = some (.lst (zs.map V.str)) ∧ Rows H b (ps.map pairV) ∧ (∀ z ∈ zs, GoodN z) ∧ zs.Nodup ∧ 1 ≤ zs.length ∧ zs.length < 60 ∧ ps.length + 1 = zs.length ∧ (∀ p ∈ ps, TieOk zs p) ∧ Conn zs ps ∧
  ∀ (zs' : List Str) (ps' : List (Str × Str)) (H' : Hp), zs'.Perm zs → Asc ltS zs' → ps'.Perm (ps.map normP) → Asc ltP ps' → TreeAt H C H' p zs' ps' → Keep [p] H H' → Q .non H'
theorem okInit {fI : Addr} {fd : FuncData} (T : TreeT K C) (G : Fun K "__init__" "Tree.__init__" sInit fI fd) (CAH : Cal P w K mg base CX0 3 "are_houses" ["thing"] spAreH) (CAT : Cal P w K mg base CX0 4 "are_ties" ["thing", "houses"] spAreT)
    (CTE : Cal P w K mg base CX0 1 "tied_to_each" ["houses", "ties"] spTied) (CST : Cal P w K mg base CX0 1 "steps_toward" ["near", "goal"] spSteps) (b_sorted : Blt mg "sorted") (b_min : Blt mg "min") (b_max : Blt mg "max") (b_len : Blt mg "len") :
    FnOk P w K mg base CX0 5 fI fd ["self", "houses", "ties"] (spInit C) := by
  refine G.ok scInit (fun vs H Q E h => by obtain ⟨p, dx, a, b, zs, ps, rfl, _⟩ := h; rfl) (fun cdv A outer s0 H vs Q E hr h => ?_)
  obtain ⟨p, dx, a, b, zs, ps, rfl, hp, ha, hb, gz, nd, l1, lz, lp, tz, cn, q⟩ := h
  have hr4 : Room 4 _ := hr
  have hr3 : Room 3 _ := hr.mono (by decide)
  have hr1 : Room 1 _ := hr.mono (by decide)
  refine ⟨_, (pss_cons (ps_if (pt_not (pt_val (pe_cal CAH hr3 (pa_cons (pv 1) pa_nil)))) (pss_one ps_never) pss_nil)
      (pss_cons (ps_if (pt_not (pt_val (pe_cal CAT hr4 (pa_cons (pv 2) (pa_cons (pv 1) pa_nil))))) (pss_one ps_never) pss_nil)
      (pss_cons (ps_fld (pv 0) (pe_blt call_sortedS b_sorted bo_sorted (pa_cons (pv 1) pa_nil)) rfl)
      (pss_cons (ps_fld (pv 0) (pe_blt call_sortedP b_sorted bo_sorted (pa_cons (pe_lc1 (N := ["self", "houses", "ties"]) (sc := defScope sInit) (ix := []) (by decide +kernel) (pi_list (pv 2)) (fun _ _ _ _ => pts_nil) (fun _ _ _ _ => (pe_tup (pa_cons (pe_blt (call_minT rfl) b_min bo_min (pa_cons (pv 0) pa_nil)) (pa_cons (pe_blt (call_maxT rfl) b_max bo_max (pa_cons (pv 0) pa_nil)) pa_nil))))) pa_nil)) rfl)
      (pss_cons (ps_fld (pv 0) (pe_cal CTE hr1 (pa_cons (pe_fld (pv 0) rfl) (pa_cons (pe_fld (pv 0) rfl) pa_nil))) rfl)
      (pss_one (ps_if (pt_cmpR op_ne (pe_blt call_lenD b_len bo_len (pa_cons (pe_cal CST hr1 (pa_cons (pe_fld (pv 0) rfl) (pa_cons (pe_ix ix_lstH (pe_fld (pv 0) rfl) pe_int (fun _ _ => rfl)) pa_nil))) pa_nil)) (pe_blt call_len b_len bo_len (pa_cons (pe_fld (pv 0) rfl) pa_nil)) (nomark _)) (pss_one ps_never) pss_nil))))))), ?_⟩
  refine ⟨_, rfl, a, zs, rfl, ha, gz, nd, l1, by omega, fun H1 k1 => ⟨_, rfl, ifF rfl ?_⟩⟩
  refine ⟨_, rfl, _, rfl, b, a, ps, zs, rfl, hb.keep k1, k1 _ _ (by simp) ha, gz, tz, lp, by omega, fun H2 k2 => ⟨_, rfl, ifF rfl ?_⟩⟩
  have k02 := k1.trans k2
  have hp2 := k02 _ _ (by simp) hp
  have ha2 := k02 _ _ (by simp) ha
  have hb2 := hb.keep k02
  refine ⟨_, rfl, a, zs, rfl, ha2, by omega, fun nl zs' hnl pz sz => ?_⟩
  have pnl : p ≠ nl := ne_of_none hp2 hnl
  refine ⟨_, rfl, p, C, dx, _, rfl, by rw [upd_ne pnl]; exact hp2, T.cl, T.nN, by show 0 < 1000; decide, ?_⟩
  generalize hH3 : upd (upd H2 nl (.lst (zs'.map V.str))) p (.ins C dx (putF "names" (.ref nl) [])) = H3
  have k3 : Keep [p] H H3 := by rw [← hH3]; exact ((k02.mono (by simp)).trans (Keep.new hnl)).trans (Keep.at (by simp))
  have hp3 : H3 p = some (.ins C dx (putF "names" (.ref nl) [])) := by rw [← hH3]; exact upd_same
  have hn3 : H3 nl = some (.lst (zs'.map V.str)) := by rw [← hH3, upd_ne pnl.symm]; exact upd_same
  have bnl : H nl = none := k02.none (by simp) hnl
  obtain ⟨qs, hbl, hbq⟩ := hb
  have bp : b ≠ p := fun e => by rw [e, hp] at hbl; cases hbl
  have hbl3 := k3 _ _ (by simp [bp]) hbl
  have npT : ∀ u ∈ [p], ∀ xs, H u ≠ some (.tup xs) := fun u hu xs e => by rw [List.mem_singleton.mp hu, hp] at e; cases e
  have hbq3 := paired_far k3 npT hbq
  have lq := paired_len hbq
  rw [List.length_map] at lq
  refine ⟨_, rfl, b, rfl, ⟨_, .of hbl3⟩, fun acc hacc => ?_⟩
  have ba : b ≠ acc := ne_of_none hbl3 hacc
  have pa : p ≠ acc := ne_of_none hp3 hacc
  refine lc_list0 (K := K) (a := b) (its := qs.map V.ref) (by rw [List.length_map, sizeLine_eq]; omega) (fun i ys τ H4 => ∃ (k : Option V) (ts : List Addr), τ = [k] ∧ ys = ts.map V.ref ∧ Paired (fun q r => H4 q = some (.tup r)) ts (((ps.take i).map normP).map pairV) ∧ Keep [acc] H3 H4 ∧ H4 acc = some (.lst ys)) ?_ ?_ ?_ ?_
  · exact ⟨_, [], rfl, rfl, .nil, Keep.at (by simp), upd_same⟩
  · rintro i ys τ H4 ⟨k, ts, rfl, rfl, pt, kp, h4⟩
    refine ⟨h4, ?_, .of (kp _ _ (by simp [ba]) hbl3)⟩
    have := paired_len pt
    rw [List.length_map] at *
    rw [this, List.length_map, List.length_take]; omega
  · rintro i ys τ H4 x hx ⟨k, ts, rfl, rfl, pt, kp, h4⟩
    rw [List.getElem?_map] at hx
    cases et : qs[i]? with
    | none => rw [et] at hx; cases hx
    | some t =>
    rw [et] at hx
    have ex : V.ref t = x := Option.some.inj hx
    subst ex
    obtain ⟨r, er, ht⟩ := paired_get hbq3 i t et
    rw [List.getElem?_map] at er
    cases ep : ps[i]? with
    | none => rw [ep] at er; cases er
    | some pr =>
    rw [ep] at er
    have er' : pairV pr = r := Option.some.inj er
    subst er'
    have ta : t ≠ acc := ne_of_none ht hacc
    have ht4 := kp _ _ (by simp [ta]) ht
    have tk : ps.take (i + 1) = ps.take i ++ [pr] := by rw [List.take_add_one, ep]; rfl
    refine ⟨_, rfl, t, pr.1, pr.2, rfl, ht4, _, rfl, t, pr.1, pr.2, rfl, ht4, by show 2 ≤ sizeLine; decide, fun t2 ht2 => ?_⟩
    have k5 : Keep [] H4 (upd H4 t2 (.tup [.str (minS pr.1 pr.2), .str (maxS pr.1 pr.2)])) := Keep.new ht2
    refine ⟨k5 _ _ (by simp) h4, _, ts ++ [t2], rfl, by rw [List.map_append]; rfl, ?_, (kp.trans (k5.mono (by simp))).trans (Keep.at (by simp)), upd_same⟩
    rw [tk, List.map_append, List.map_append]
    have a2 : acc ≠ t2 := ne_of_none h4 ht2
    refine paired_snoc (paired_far (S := [acc]) ((k5.mono (by simp)).trans (Keep.at (by simp))) (fun u hu xs e => by rw [List.mem_singleton.mp hu, h4] at e; cases e) pt) ?_
    rw [upd_ne a2.symm]
    exact upd_same
  rintro ys τ H4 ⟨k, ts, rfl, rfl, pt, kp4, h4⟩
  rw [List.length_map, lq, List.take_length] at pt
  have k34 : Keep [] H3 H4 := kp4.drop hacc
  refine ⟨acc, ts, ps.map normP, rfl, h4, pt, by rw [List.length_map]; omega, fun pl qs' ps' hpl pp sp hpr => ?_⟩
  have hp4 := k34 _ _ (by simp) hp3
  have ppl : p ≠ pl := ne_of_none hp4 hpl
  refine ⟨_, rfl, p, C, dx, _, rfl, by rw [upd_ne ppl]; exact hp4, T.cl, T.nP, by show 1 < 1000; decide, ?_⟩
  rw [tput2]
  generalize hH5 : upd (upd H4 pl (.lst (qs'.map V.ref))) p (.ins C dx (tf2 nl pl)) = H5
  have k5 : Keep [p] H4 H5 := by rw [← hH5]; exact (Keep.new hpl).trans (Keep.at (by simp))
  have hp5 : H5 p = some (.ins C dx (tf2 nl pl)) := by rw [← hH5]; exact upd_same
  have hn5 : H5 nl = some (.lst (zs'.map V.str)) := k5 _ _ (by simp [pnl.symm]) (k34 _ _ (by simp) hn3)
  have hl5 : H5 pl = some (.lst (qs'.map V.ref)) := by rw [← hH5, upd_ne ppl.symm]; exact upd_same
  have hq5 : Paired (fun q r => H5 q = some (.tup r)) qs' (ps'.map pairV) := paired_far k5 (fun u hu xs e => by rw [List.mem_singleton.mp hu, hp4] at e; cases e) hpr
  have k05 : Keep [p] H H5 := (k3.trans (k34.mono (by simp))).trans k5
  have bpl : H pl = none := (k3.trans (k34.mono (by simp))).none (by simp [ppl.symm]) hpl
  have tz' : ∀ t ∈ ps', TieOk zs' t := fun t ht => by
    obtain ⟨u, hu, e⟩ := List.mem_map.mp (pp.mem_iff.mp ht)
    rw [← e]
    obtain ⟨a, b, c⟩ := tie_norm (tz u hu)
    exact ⟨pz.mem_iff.mpr a, pz.mem_iff.mpr b, c⟩
  have lps' : ps'.length < 60 := by rw [pp.length_eq, List.length_map]; omega
  have lzs' : zs'.length = zs.length := pz.length_eq
  have nd' : zs'.Nodup := pz.nodup_iff.mpr nd
  refine ⟨_, rfl, p, C, dx, _, _, rfl, hp5, T.cl, T.nN, rfl, _, rfl, p, C, dx, _, _, rfl, hp5, T.cl, T.nP, rfl, nl, pl, ps', zs', rfl, hn5, ⟨qs', hl5, hq5⟩, nd', tz', lps', by omega, fun ndr L N H6 hnd hL na k6 => ?_⟩
  have hp6 := k6 _ _ (by simp) hp5
  refine ⟨_, rfl, p, C, dx, _, rfl, hp6, T.cl, T.nR, by show 2 < 1000; decide, ?_⟩
  rw [show putF "near" (.ref ndr) (tf2 nl pl) = tfl nl pl ndr from by rw [← tput2, tput]]
  generalize hH7 : upd H6 p (.ins C dx (tfl nl pl ndr)) = H7
  have k7 : Keep [p] H6 H7 := by rw [← hH7]; exact Keep.at (by simp)
  have hp7 : H7 p = some (.ins C dx (tfl nl pl ndr)) := by rw [← hH7]; exact upd_same
  have k57 : Keep [p] H5 H7 := (k6.mono (by simp)).trans k7
  have k07 : Keep [p] H H7 := k05.trans k57
  have pnd : ndr ≠ p := fun e => by rw [e, hp5] at hnd; cases hnd
  have bnd : H ndr = none := k05.none (by simp [pnd]) hnd
  have pL : ∀ z ∈ zs', L z ≠ p := fun z hz e => by have := hL z hz; rw [e, hp5] at this; cases this
  have bL : ∀ z ∈ zs', H (L z) = none := fun z hz => k05.none (by simp [pL z hz]) (hL z hz)
  have na7 : NearAt H7 ndr zs' ps' L N := ⟨k7 _ _ (by simp [pnd]) na.d, fun z hz => k7 _ _ (by simp [pL z hz]) (na.l z hz), na.p, na.s⟩
  have hn7 := k57 _ _ (by simp [pnl.symm]) hn5
  have hl7 := k57 _ _ (by simp [ppl.symm]) hl5
  have hq7 : Paired (fun q r => H7 q = some (.tup r)) qs' (ps'.map pairV) := paired_far k57 (fun u hu xs e => by rw [List.mem_singleton.mp hu, hp5] at e; cases e) hq5
  obtain ⟨g, zs1, ez⟩ : ∃ g zs1, zs' = g :: zs1 := by
    cases e : zs' with
    | nil => rw [e] at lzs'; simp at lzs'; omega
    | cons g zs1 => exact ⟨g, zs1, rfl⟩
  have hg : g ∈ zs' := by rw [ez]; exact List.mem_cons_self
  refine ⟨_, rfl, p, C, dx, _, _, rfl, hp7, T.cl, T.nR, rfl, _, rfl, p, C, dx, _, _, rfl, hp7, T.cl, T.nN, rfl, nl, _, _, .str g, rfl, rfl, hn7, ?_, ndr, zs', ps', L, N, g, rfl, na7, by omega, hg, (fun z hz y hy => raw_in tz' ((na.p z hz).mem_iff.mp hy)), fun sd ks nx H8 hsd led cl h8 k8 => ?_⟩
  · rw [ez]; simp [atI, ixN]
  obtain ⟨_, ek⟩ := led_all (conn_norm cn pz pp) tz' nd' na.p led cl
  refine ⟨sd, _, rfl, h8, _, rfl, p, C, dx, _, _, rfl, k8 _ _ (by simp) hp7, T.cl, T.nN, rfl, _, _, rfl, .inl ⟨_, .of (k8 _ _ (by simp) hn7), rfl⟩, rfl, _, rfl, ifF ?_ ?_⟩
  · rw [dz_len, List.length_map, ek]; simp
  refine q zs' ps' H8 pz sz pp sp ?_ (k07.trans (k8.mono (by simp)))
  exact TreeAt.on ⟨dx, nl, pl, ndr, L, N, ⟨bnl, bpl, bnd, bL⟩, hp7, hn7, ⟨qs', hl7, hq7⟩, na7⟩ k8
noncomputable def spHouses (C : Addr) : Sp := fun vs H Q _ => ∃ (p : Addr) (B : Hp) (zs : List Str) (ps : List (Str × Str)), vs = [.ref p] ∧ TreeAt B C H p zs ps ∧ ∀ l, H l = none → Q (.ref l) (upd H l (.lst (zs.map V.str)))
theorem okHouses (T : TreeT K C) (G : MthG K C "houses" "Tree.houses" sHouses ["self"]) (b_list : Blt mg "list") : MCal P w K mg base CX0 1 C "houses" ["self"] (spHouses C) := by
  refine G.ok scHouses (fun vs H Q E h => by obtain ⟨p, B, zs, ps, rfl, _⟩ := h; rfl) (fun f cdv A outer s0 H vs Q E hr h => ?_)
  obtain ⟨p, B, zs, ps, rfl, ⟨dx, nl, pl, nd, L, N, _, h1, h2, h3, h4⟩, q⟩ := h
  refine ⟨_, (pss_one (ps_ret (pe_callTy call_list_of rfl b_list.no bo_list (pa_cons (pe_fld (pv 0) rfl) pa_nil)))), ?_⟩
  exact ⟨_, rfl, p, C, dx, _, _, rfl, h1, T.cl, T.nN, rfl, nl, _, rfl, .inl (.of h2), fun l hl => q l hl⟩
noncomputable def spTies (C : Addr) : Sp := fun vs H Q _ => ∃ (p : Addr) (B : Hp) (zs : List Str) (ps : List (Str × Str)), vs = [.ref p] ∧ TreeAt B C H p zs ps ∧ ∀ l H', H l = none → Rows H' l (ps.map pairV) → Keep [] H H' → Q (.ref l) H'
theorem okTies (T : TreeT K C) (G : MthG K C "ties" "Tree.ties" sTies ["self"]) (b_list : Blt mg "list") : MCal P w K mg base CX0 1 C "ties" ["self"] (spTies C) := by
  refine G.ok scTies (fun vs H Q E h => by obtain ⟨p, B, zs, ps, rfl, _⟩ := h; rfl) (fun f cdv A outer s0 H vs Q E hr h => ?_)
  obtain ⟨p, B, zs, ps, rfl, ⟨dx, nl, pl, nd, L, N, _, h1, h2, ⟨qs, h3, h3'⟩, h4⟩, q⟩ := h
  refine ⟨_, (pss_one (ps_ret (pe_callTy call_list_of rfl b_list.no bo_list (pa_cons (pe_fld (pv 0) rfl) pa_nil)))), ?_⟩
  refine ⟨_, rfl, p, C, dx, _, _, rfl, h1, T.cl, T.nP, rfl, pl, _, rfl, .inl (.of h3), fun l hl => q l _ hl ⟨qs, upd_same, ?_⟩ (Keep.new hl)⟩
  exact paired_far (S := []) (Keep.new hl) (fun b hb => by cases hb) h3'
end
end K81
set_option Elab.async false
set_option linter.all false
set_option maxRecDepth 100000
set_option maxHeartbeats 4000000
namespace K81
open PySem L2
theorem cut_to {α : Type} (f : α → V) (l : List α) {k : Int} (hk : 0 ≤ k) : cutV (l.map f) none (some k) = (l.take k.toNat).map f := by
  unfold cutV
  obtain ⟨n, rfl⟩ := Int.eq_ofNat_of_zero_le hk
  rw [HT.sIx_none, HT.sIx_nat, List.drop_zero, List.length_map, Nat.sub_zero, ← List.map_take]
  congr 1
  rcases Nat.le_total n l.length with h | h
  · rw [Nat.min_eq_left h]; rfl
  · rw [Nat.min_eq_right h, List.take_of_length_le (Nat.le_refl _)]; exact (List.take_of_length_le h).symm
theorem cut_from {α : Type} (f : α → V) (l : List α) {k : Int} (hk : 0 ≤ k) : cutV (l.map f) (some k) none = (l.drop k.toNat).map f := by
  unfold cutV
  obtain ⟨n, rfl⟩ := Int.eq_ofNat_of_zero_le hk
  rw [HT.sIx_none, HT.sIx_nat, List.length_map, ← List.map_drop, ← List.map_take]
  congr 1
  show (l.drop (min n l.length)).take (l.length - min n l.length) = l.drop n
  rcases Nat.le_total n l.length with h | h
  · rw [Nat.min_eq_left h, List.take_of_length_le (by rw [List.length_drop]; omega)]
  · rw [Nat.min_eq_right h, List.drop_of_length_le (Nat.le_refl _), List.drop_of_length_le h]; simp
noncomputable def turn {α : Type} (k : Nat) (b : Bool) (xs : List α) : List α := if b then (xs.drop k ++ xs.take k).reverse else xs.drop k ++ xs.take k
theorem rot_perm {α : Type} (k : Nat) (xs : List α) : (xs.drop k ++ xs.take k).Perm xs := by
  have := @List.perm_append_comm _ (xs.drop k) (xs.take k)
  rw [List.take_append_drop] at this
  exact this
theorem turn_perm {α : Type} (k : Nat) (b : Bool) (xs : List α) : (turn k b xs).Perm xs := by
  unfold turn
  cases b with
  | false => exact rot_perm k xs
  | true => exact (List.reverse_perm _).trans (rot_perm k xs)
theorem turn_map {α β : Type} (f : α → β) (k : Nat) (b : Bool) (xs : List α) : (turn k b xs).map f = turn k b (xs.map f) := by
  unfold turn
  cases b <;> simp [List.map_drop, List.map_take, List.map_reverse]
theorem paired_drop {α β : Type} {F : α → β → Prop} : ∀ (k : Nat) {xs : List α} {ys : List β}, Paired F xs ys → Paired F (xs.drop k) (ys.drop k) := by
  intro k
  induction k with
  | zero => intro xs ys h; exact h
  | succ k ih =>
    intro xs ys h
    cases h with
    | nil => exact .nil
    | cons a t => exact ih t
theorem paired_take {α β : Type} {F : α → β → Prop} : ∀ (k : Nat) {xs : List α} {ys : List β}, Paired F xs ys → Paired F (xs.take k) (ys.take k) := by
  intro k
  induction k with
  | zero => intro xs ys h; exact .nil
  | succ k ih =>
    intro xs ys h
    cases h with
    | nil => exact .nil
    | cons a t => exact .cons a (ih t)
theorem paired_rev {α β : Type} {F : α → β → Prop} {xs : List α} {ys : List β} (h : Paired F xs ys) : Paired F xs.reverse ys.reverse := by
  induction h with
  | nil => exact .nil
  | cons a t ih => rw [List.reverse_cons, List.reverse_cons]; exact paired_snoc ih a
theorem paired_turn {α β : Type} {F : α → β → Prop} {xs : List α} {ys : List β} (k : Nat) (b : Bool) (h : Paired F xs ys) : Paired F (turn k b xs) (turn k b ys) := by
  have := paired_app (paired_drop k h) (paired_take k h)
  unfold turn
  cases b with
  | false => exact this
  | true => exact paired_rev this
theorem map_eraseS : ∀ (ws : List Str) (k : Nat), (ws.map V.str).eraseIdx k = (ws.eraseIdx k).map V.str := by
  intro ws
  induction ws with
  | nil => intro k; rfl
  | cons w ws ih =>
    intro k
    cases k with
    | zero => rfl
    | succ k => show V.str w :: (ws.map V.str).eraseIdx k = V.str w :: (ws.eraseIdx k).map V.str; rw [ih]
theorem erase_perm {α : Type} : ∀ (ws : List α) (k : Nat) (h : k < ws.length), (ws[k] :: ws.eraseIdx k).Perm ws := by
  intro ws
  induction ws with
  | nil => intro k h; exact absurd h (Nat.not_lt_zero _)
  | cons w ws ih =>
    intro k h
    cases k with
    | zero => exact .refl _
    | succ k =>
      have h' : k < ws.length := Nat.lt_of_succ_lt_succ h
      exact (List.Perm.swap _ _ _).trans ((ih k h').cons w)
theorem Src.on {H H' : Hp} {p : Addr} (h : Src H p) (k : Keep [] H H') : Src H' p := by
  obtain ⟨a, b, c, e⟩ := h
  exact ⟨a, b, c, k _ _ (by simp) e⟩
theorem Src.ne {H : Hp} {p l : Addr} (h : Src H p) (hl : H l = none) : l ≠ p := by
  obtain ⟨a, b, c, e⟩ := h
  exact Ne.symm (ne_of_none e hl)
noncomputable abbrev sWord : Stmt := top 31
noncomputable abbrev sTurned : Stmt := top 33
noncomputable abbrev sShuf : Stmt := top 34
section
variable {P : Program} {w : World} {K : PySem.W.Frag} {mg : Str → Option Value} {base : Heap} {C : Addr}
theorem scWord : FnScope ["_law_source", "_law_most", "_law_letters"] ["_law_source", "_law_most"] (defScope sWord) := ⟨rfl, rfl, rfl, by decide +kernel, rfl, by decide +kernel, by decide +kernel⟩
theorem scTurned : FnScope ["_law_source", "_law_things", "_law_at", "_law_found"] ["_law_source", "_law_things"] (defScope sTurned) := ⟨rfl, rfl, rfl, by decide +kernel, rfl, by decide +kernel, by decide +kernel⟩
theorem scShuf : FnScope ["_law_source", "_law_names_here", "_law_left", "_law_found"] ["_law_source", "_law_names_here"] (defScope sShuf) := ⟨rfl, rfl, rfl, by decide +kernel, rfl, by decide +kernel, by decide +kernel⟩
noncomputable def spWord : Sp := fun vs H Q _ => ∃ (p : Addr) (m : Int), vs = [.ref p, .int m] ∧ Src H p ∧ 0 ≤ m ∧ m ≤ 90 ∧
  ∀ (z : Str) (H' : Hp), LowS z → (z.length : Int) ≤ m → Keep [p] H H' → Src H' p → Q (.str z) H'
theorem okWord (G : FunG K mg "_law_word" sWord ["_law_source", "_law_most"]) (CN : Cal P w K mg base CX0 2 "_law_next" ["_law_source", "_law_many"] spNext) (b_range : Blt mg "range") :
    Cal P w K mg base CX0 3 "_law_word" ["_law_source", "_law_most"] spWord := by
  refine G.ok scWord (fun vs H Q E h => by obtain ⟨p, m, rfl, _⟩ := h; rfl) (fun f cdv A outer s H vs Q E hr h => ?_)
  obtain ⟨p, m, rfl, ⟨a, b, c, hp⟩, m0, m1, q⟩ := h
  have hr2 : Room 2 _ := hr
  refine ⟨_, (pss_cons (ps_set (i := 2) scWord.nd rfl (Or.inr rfl) pe_str)
      (pss_one (ps_ret (pe_bm PySem.F.plainAttrs_str PySem.F.slot_str_join PySem.F.type_str_join mt_join pe_str (pa_cons (pe_lc1 (N := ["_law_source", "_law_most", "_law_letters"]) (sc := defScope sWord) (ix := [2, 0]) (by decide +kernel) (pi_range1 rfl b_range.no (pa_cons (pe_cal CN hr2 (pa_cons (pv 0) (pa_cons (pe_op op_add (pv 1) pe_int) pa_nil))) pa_nil)) (fun _ _ _ _ => pts_nil) (fun _ _ _ _ => (pe_ix ix_str (pv 1) (pe_cal CN hr2 (pa_cons (pv 2) (pa_cons pe_int pa_nil))) (fun _ _ => rfl)))) pa_nil))))), ?_⟩
  refine ⟨rfl, _, rfl, _, rfl, _, _, rfl, rfl, p, a, b, c, _, rfl, hp, by omega, by omega, fun v a' c' v0 v1 => ⟨_, rfl, by omega, by omega, fun acc ha => ?_⟩⟩
  have k1 : Keep [p] H (upd H p (.lst [.int a', .int b, .int c'])) := Keep.at (by simp)
  refine stem_turns (p := p) (n := v.toNat) (by omega) ⟨a', b, c', upd_same⟩ ha rfl (fun k H2 R ⟨a2, b2, c2, hs⟩ R' => ?_) ?_
  · refine ⟨_, rfl, _, rfl, p, a2, b2, c2, 26, rfl, hs, by decide, by decide, fun v2 a3 c3 w0 w1 => ?_⟩
    obtain ⟨ch, hc1, hc2⟩ := atI_in (xs := abc.cps.toList) w0 (show v2 < ((26 : Nat) : Int) from w1)
    exact ⟨_, v2, ch, rfl, rfl, by decide, hc1, R' ch _ (List.mem_of_getElem? hc2) (Keep.at (by simp)) ⟨a3, b2, c3, upd_same⟩⟩
  intro zs H2 hzl hz k2 s2 h2
  refine ⟨"", acc, zs, rfl, rfl, .of h2, by rw [sum_low zs hz, hzl]; show _ + _ * 0 ≤ _; omega, ?_⟩
  exact q _ _ (low_join zs fun z h => (hz z h).1) (by rw [join_len, sum_low zs hz, hzl]; omega) (k1.trans k2) s2
noncomputable def spTurned : Sp := fun vs H Q _ => ∃ (p a : Addr) (xs : List V), vs = [.ref p, .ref a] ∧ Src H p ∧ H a = some (.lst xs) ∧ xs.length ≤ 1000 ∧ a ≠ p ∧
  ∀ (r : Addr) (k : Nat) (b : Bool) (H' : Hp), H r = none → H' r = some (.lst (turn k b xs)) → Keep [p] H H' → Src H' p → Q (.ref r) H'
theorem okTurned (G : FunG K mg "_law_turned" sTurned ["_law_source", "_law_things"]) (CN : Cal P w K mg base CX0 2 "_law_next" ["_law_source", "_law_many"] spNext) (b_len : Blt mg "len") :
    Cal P w K mg base CX0 3 "_law_turned" ["_law_source", "_law_things"] spTurned := by
  refine G.ok scTurned (fun vs H Q E h => by obtain ⟨p, a, xs, rfl, _⟩ := h; rfl) (fun f cdv A outer s H vs Q E hr h => ?_)
  obtain ⟨p, a, xs, rfl, ⟨x, y, z, hp⟩, ha, lx, ap, q⟩ := h
  have hr2 : Room 2 _ := hr
  refine ⟨_, (pss_cons (ps_set (i := 2) scTurned.nd rfl (Or.inl rfl) (pe_cal CN hr2 (pa_cons (pv 0) (pa_cons (pe_op op_add (pe_blt call_len b_len bo_len (pa_cons (pv 1) pa_nil)) pe_int) pa_nil))))
      (pss_cons (ps_set (i := 3) scTurned.nd rfl (Or.inl rfl) (pe_op op_cat (pe_slice sl_list (pv 1) (po_some (pv 2)) po_none) (pe_slice sl_list (pv 1) po_none (po_some (pv 2)))))
      (pss_one (ps_ret (pe_ix ix_lstH (pe_lst (pa_cons (pv 3) (pa_cons (pe_back (pv 3)) pa_nil))) (pe_cal CN hr2 (pa_cons (pv 0) (pa_cons pe_int pa_nil))) (fun _ _ => rfl)))))), ?_⟩
  refine ⟨_, rfl, _, rfl, _, _, rfl, .inl ⟨_, .of ha, rfl⟩, _, _, rfl, rfl, p, x, y, z, _, rfl, hp, by omega, by omega, fun k x1 z1 k0 kl => ?_⟩
  have k1 : Keep [p] H (upd H p (.lst [.int x1, .int y, .int z1])) := Keep.at (by simp)
  generalize hH1 : upd H p (.lst [.int x1, .int y, .int z1]) = H1 at k1
  have s1 : Src H1 p := ⟨x1, y, z1, by rw [← hH1]; exact upd_same⟩
  have ha1 := k1 _ _ (by simp [ap]) ha
  refine ⟨_, rfl, _, rfl, k, rfl, a, xs, rfl, .of ha1, fun u hu => ?_⟩
  have k2 : Keep [] H1 (upd H1 u (.lst (cutV xs (some k) none))) := Keep.new hu
  refine ⟨_, rfl, _, rfl, k, rfl, a, xs, rfl, .of (k2 _ _ (by simp) ha1), fun u2 hu2 => ?_⟩
  obtain ⟨_, u12⟩ := upd_none hu2
  refine ⟨u, u2, _, _, rfl, rfl, by rw [upd_ne u12.symm, upd_same], upd_same, by rw [sizeLine_eq]; have := cutV_length xs (some k) none; have := cutV_length xs none (some k); omega, fun fo hfo => ?_⟩
  have e1 := cut_from id xs k0
  have e2 := cut_to id xs k0
  rw [List.map_id, List.map_id] at e1 e2
  rw [e1, e2] at hfo ⊢
  generalize hH3 : upd (upd (upd H1 u (.lst (xs.drop k.toNat))) u2 (.lst (xs.take k.toNat))) fo (.lst (xs.drop k.toNat ++ xs.take k.toNat)) = H3
  have k3 : Keep [] H1 H3 := by rw [← hH3, ← e1]; exact k2.trans ((Keep.new hu2).trans (Keep.new (by rw [e1]; exact hfo)))
  have hf3 : H3 fo = some (.lst (xs.drop k.toNat ++ xs.take k.toNat)) := by rw [← hH3]; exact upd_same
  have n3 : H1 fo = none := by
    refine k2.none (by simp) ?_
    rw [e1]
    exact (Keep.new (S := []) (by rw [← e1]; exact hu2)).none (by simp) hfo
  refine ⟨_, rfl, _, rfl, fo, _, rfl, .of hf3, fun bk hbk => ⟨by show 2 ≤ sizeLine; decide, fun dl hdl => ?_⟩⟩
  have k4 : Keep [] H3 (upd H3 bk (.lst (xs.drop k.toNat ++ xs.take k.toNat).reverse)) := Keep.new hbk
  generalize hH4 : upd H3 bk (.lst (xs.drop k.toNat ++ xs.take k.toNat).reverse) = H4 at k4 hdl ⊢
  have hb4 : H4 bk = some (.lst (xs.drop k.toNat ++ xs.take k.toNat).reverse) := by rw [← hH4]; exact upd_same
  have k5 : Keep [] H4 (upd H4 dl (.lst [.ref fo, .ref bk])) := Keep.new hdl
  generalize hH5 : upd H4 dl (.lst [.ref fo, .ref bk]) = H5 at k5 ⊢
  have hd5 : H5 dl = some (.lst [.ref fo, .ref bk]) := by rw [← hH5]; exact upd_same
  have s5 := ((s1.on k3).on k4).on k5
  have pb : bk ≠ p := (s1.on k3).ne hbk
  have pd : dl ≠ p := ((s1.on k3).on k4).ne hdl
  have pf : fo ≠ p := s1.ne n3
  have nb : H bk = none := k1.none (by simp [pb]) (k3.none (by simp) hbk)
  have nf : H fo = none := k1.none (by simp [pf]) n3
  obtain ⟨x5, y5, z5, hp5⟩ := id s5
  refine ⟨_, rfl, p, x5, y5, z5, 2, rfl, hp5, by decide, by decide, fun v x6 z6 v0 v1 => ?_⟩
  have k6 : Keep [p] H5 (upd H5 p (.lst [.int x6, .int y5, .int z6])) := Keep.at (by simp)
  have k06 : Keep [p] H (upd H5 p (.lst [.int x6, .int y5, .int z6])) := k1.trans (((k3.trans (k4.trans k5)).mono (by simp)).trans k6)
  rcases (show v = 0 ∨ v = 1 by omega) with rfl | rfl
  · refine ⟨dl, _, 0, _, rfl, rfl, k6 _ _ (by simp [pd]) hd5, rfl, q fo k.toNat false _ nf ?_ k06 ⟨x6, y5, z6, upd_same⟩⟩
    exact k6 _ _ (by simp [pf]) (k5 _ _ (by simp) (k4 _ _ (by simp) hf3))
  · refine ⟨dl, _, 1, _, rfl, rfl, k6 _ _ (by simp [pd]) hd5, rfl, q bk k.toNat true _ nb ?_ k06 ⟨x6, y5, z6, upd_same⟩⟩
    exact k6 _ _ (by simp [pb]) (k5 _ _ (by simp) hb4)
noncomputable def spShuf : Sp := fun vs H Q _ => ∃ (p a : Addr) (zs : List Str), vs = [.ref p, .ref a] ∧ Src H p ∧ H a = some (.lst (zs.map V.str)) ∧ zs.length ≤ 1000 ∧
  ∀ (r : Addr) (zs' : List Str) (H' : Hp), H r = none → zs'.Perm zs → H' r = some (.lst (zs'.map V.str)) → Keep [p] H H' → Src H' p → Q (.ref r) H'
theorem okShuf (G : FunG K mg "_law_shuffled" sShuf ["_law_source", "_law_names_here"]) (CN : Cal P w K mg base CX0 2 "_law_next" ["_law_source", "_law_many"] spNext) (b_len : Blt mg "len") (b_list : Blt mg "list") :
    Cal P w K mg base CX0 3 "_law_shuffled" ["_law_source", "_law_names_here"] spShuf := by
  refine G.ok scShuf (fun vs H Q E h => by obtain ⟨p, a, zs, rfl, _⟩ := h; rfl) (fun f cdv A outer s H vs Q E hr h => ?_)
  obtain ⟨p, a, zs, rfl, sr, ha, lx, q⟩ := h
  have hr2 : Room 2 _ := hr
  have hu0 := Nat.lt_of_succ_lt (hu_of hr)
  refine ⟨_, (pss_cons (ps_set (i := 2) scShuf.nd rfl (Or.inl rfl) (pe_callTy call_list_of rfl b_list.no bo_list (pa_cons (pv 1) pa_nil)))
      (pss_cons (ps_set (i := 3) scShuf.nd rfl (Or.inl rfl) (pe_lst pa_nil))
      (pss_cons (ps_while PassesOwn.never (pt_cmpR (op_neE hu0) (pv 2) (pe_lst pa_nil) (nomark _)) (pss_one (ps_expr (pe_bm PySem.F.plainAttrs_list PySem.F.slot_list_append PySem.F.type_list_append mt_append (pv 3) (pa_cons (pe_bm PySem.F.plainAttrs_list PySem.F.slot_list_pop PySem.F.type_list_pop mt_popAt (pv 2) (pa_cons (pe_cal CN hr2 (pa_cons (pv 0) (pa_cons (pe_blt call_len b_len bo_len (pa_cons (pv 2) pa_nil)) pa_nil))) pa_nil)) pa_nil)))))
      (pss_one (ps_ret (pv 3)))))), ?_⟩
  refine ⟨_, rfl, a, _, rfl, .inl (.of ha), fun l hl => ⟨Nat.zero_le _, fun fo hfo => ?_⟩⟩
  obtain ⟨nfo, fl⟩ := upd_none hfo
  have lp : l ≠ p := sr.ne hl
  have fp : fo ≠ p := sr.ne nfo
  refine ⟨fun m σ H1 => ∃ (zs1 zs2 : List Str), σ = [some (.ref p), some (.ref a), some (.ref l), some (.ref fo)] ∧ m = zs1.length ∧ (zs2 ++ zs1).Perm zs ∧ Src H1 p ∧ H1 l = some (.lst (zs1.map V.str)) ∧ H1 fo = some (.lst (zs2.map V.str)) ∧ Keep [l, fo, p] H H1, ⟨_, zs, [], rfl, rfl, .refl _, (sr.on (Keep.new hl)).on (Keep.new hfo), by rw [upd_ne fl.symm, upd_same], upd_same, (Keep.new hl).trans (Keep.new hfo)⟩, ?_⟩
  rintro m σ H1 ⟨zs1, zs2, rfl, rfl, pm, s1, h1, h2, k1⟩
  refine ⟨_, rfl, Nat.zero_le _, fun e he => ?_⟩
  have k2 : Keep [] H1 (upd H1 e (.lst [])) := Keep.new he
  have le : l ≠ e := ne_of_none h1 he
  refine ⟨l, e, _, rfl, rfl, k2 _ _ (by simp) h1, upd_same, le, _, rfl, ?_⟩
  generalize upd H1 e (.lst []) = H2 at k2
  have s2 := s1.on k2
  have h12 := k2 _ _ (by simp) h1
  have h22 := k2 _ _ (by simp) h2
  have k02 := k1.trans (k2.mono (S' := [l, fo, p]) (by simp))
  cases zs1 with
  | nil =>
    refine ifF rfl ⟨_, rfl, q fo zs2 H2 nfo (by rw [List.append_nil] at pm; exact pm) h22 ?_ s2⟩
    exact (k02.drop hl).drop nfo
  | cons z0 zs1 =>
  refine ifT rfl ?_
  obtain ⟨x, y, z, hp⟩ := id s2
  have ln := pm.length_eq
  rw [List.length_append] at ln
  have l1 : ((z0 :: zs1).map V.str).length ≤ 1000 := by rw [List.length_map]; omega
  have l0 : 0 < ((z0 :: zs1).map V.str).length := by simp
  generalize z0 :: zs1 = ws at *
  refine ⟨fun σ' H' => ∃ m', m' < ws.length ∧ ∃ (zs1 zs2 : List Str), σ' = [some (.ref p), some (.ref a), some (.ref l), some (.ref fo)] ∧ m' = zs1.length ∧ (zs2 ++ zs1).Perm zs ∧ Src H' p ∧ H' l = some (.lst (zs1.map V.str)) ∧ H' fo = some (.lst (zs2.map V.str)) ∧ Keep [l, fo, p] H H', fun _ _ h => h, ?_⟩
  refine ⟨_, rfl, Or.inl ⟨rfl, _, .of h22⟩, _, rfl, Or.inl ⟨rfl, _, .of h12⟩, _, rfl, _, rfl, _, _, rfl, .inl ⟨_, .of h12, rfl⟩, p, x, y, z, _, rfl, hp, by omega, by omega, fun v x' z' v0 v1 => ?_⟩
  have vl : v.toNat < ws.length := by rw [List.length_map] at v1; omega
  have ex : (ws.map V.str)[v.toNat]? = some (.str ws[v.toNat]) := by rw [List.getElem?_map, List.getElem?_eq_getElem vl]; rfl
  have ei : seqIndex? v (ws.map V.str).length = some v.toNat := (ixN_seq (by unfold ixN; rw [if_pos v0, if_pos (by omega)])).1
  refine ⟨l, _, v, v.toNat, .str ws[v.toNat], rfl, rfl, by rw [upd_ne lp]; exact h12, by omega, by omega, ei, ex, ?_⟩
  refine ⟨fo, _, _, rfl, rfl, by rw [upd_ne fl, upd_ne fp]; exact h22, by rw [List.length_map, sizeLine_eq]; omega, ?_⟩
  have em : (ws.map V.str).eraseIdx v.toNat = (ws.eraseIdx v.toNat).map V.str := map_eraseS ws v.toNat
  refine ⟨_, ?_, ws.eraseIdx v.toNat, zs2 ++ [ws[v.toNat]], rfl, rfl, ?_, ?_, ?_, ?_, ?_⟩
  · rw [List.length_eraseIdx_of_lt vl]; omega
  · rw [List.append_assoc]
    exact ((erase_perm ws v.toNat vl).append_left zs2).trans pm
  · exact ⟨x', y, z', by rw [upd_ne fp.symm, upd_ne lp.symm, upd_same]⟩
  · rw [upd_ne fl.symm, upd_same, em]
  · rw [upd_same, List.map_append]; rfl
  · exact ((k02.trans (Keep.at (by simp))).trans (Keep.at (by simp))).trans (Keep.at (by simp))
end
end K81
set_option Elab.async false
set_option linter.all false
set_option maxRecDepth 100000
set_option maxHeartbeats 4000000
namespace K81
open PySem L2
noncomputable def someN : List Str := ["tree", "tie", "any", "a", "ab", "aba", "b", "mend", "zzzzzzzz", "ask", "house", "asker"]
theorem some_nd : someN.Nodup := by decide +kernel
theorem some_good : ∀ z ∈ someN, GoodN z := by
  unfold GoodN
  decide +kernel
noncomputable def chN (sh : Int) (k : Nat) : Nat := abc.cps.toList.getD ((sh + 2 * (0 + (k : Int))) % 26).toNat 0
theorem abc_len : abc.cps.toList.length = 26 := by decide +kernel
theorem chN_at (sh : Int) (k : Nat) : atI abc.cps.toList ((sh + 2 * (0 + (k : Int))) % 26) = some (chN sh k) ∧ chN sh k ∈ abc.cps.toList := by
  have g0 : 0 ≤ (sh + 2 * (0 + (k : Int))) % 26 := Int.emod_nonneg _ (by decide)
  have g1 : (sh + 2 * (0 + (k : Int))) % 26 < 26 := Int.emod_lt_of_pos _ (by decide)
  obtain ⟨v, e1, e2⟩ := atI_in (xs := abc.cps.toList) g0 (by rw [abc_len]; exact g1)
  have e : chN sh k = v := by unfold chN; rw [List.getD_eq_getElem?_getD, e2]; rfl
  rw [e]
  exact ⟨e1, List.mem_of_getElem? e2⟩
theorem abc_inj : ∀ i j : Fin 26, abc.cps.toList.getD i.val 0 = abc.cps.toList.getD j.val 0 → i = j := by decide +kernel
theorem chN_inj {sh : Int} {j k : Nat} (hj : j < 13) (hk : k < 13) (h : chN sh j = chN sh k) : j = k := by
  have g0 : ∀ k : Nat, 0 ≤ (sh + 2 * (0 + (k : Int))) % 26 := fun k => Int.emod_nonneg _ (by decide)
  have g1 : ∀ k : Nat, (sh + 2 * (0 + (k : Int))) % 26 < 26 := fun k => Int.emod_lt_of_pos _ (by decide)
  have e := abc_inj ⟨((sh + 2 * (0 + (j : Int))) % 26).toNat, by have := g0 j; have := g1 j; omega⟩ ⟨((sh + 2 * (0 + (k : Int))) % 26).toNat, by have := g0 k; have := g1 k; omega⟩ h
  have e' : ((sh + 2 * (0 + (j : Int))) % 26).toNat = ((sh + 2 * (0 + (k : Int))) % 26).toNat := congrArg Fin.val e
  have := g0 j; have := g0 k
  omega
theorem app_list (x y : Str) : (x ++ y).cps.toList = x.cps.toList ++ y.cps.toList := by
  show (x.cps ++ y.cps).toList = _
  simp
theorem mid_inj {a b : Str} {c d : Nat} (h : a ++ (⟨#[c]⟩ : Str) ++ b = a ++ (⟨#[d]⟩ : Str) ++ b) : c = d := by
  have := congrArg (fun z : Str => z.cps.toList) h
  simp only [app_list] at this
  simpa using this
theorem end_inj {a b : Str} {c d : Nat} (h : a ++ (⟨#[c]⟩ : Str) = b ++ (⟨#[d]⟩ : Str)) : c = d := by
  have := congrArg (fun z : Str => z.cps.toList.getLast?) h
  simp only [app_list] at this
  simpa using this
theorem cut_lens {x : Str} {i : Int} (h0 : 0 ≤ i) (h1 : i ≤ x.length) : (Txt.slice x none (some i)).length + (Txt.slice x (some i) none).length = x.length := by
  have e0 : x.cps.toList.length = x.length := by show x.cps.toList.length = x.cps.size; simp
  have a := eq_of_beq (PyProof.Rows.slice_closes_to (x := x) (j := i) ⟨h0, by rw [e0]; exact h1⟩)
  have b := PyProof.Rows.slice_from_eq (x := x) (i := i) (b := x.length) h0 h1 rfl
  rw [a, b]
  show ((x.cps.toList.drop (0 : Int).toNat).take (i - 0).toNat).toArray.size + ((x.cps.toList.drop i.toNat).take ((x.length : Int) - i).toNat).toArray.size = _
  rw [List.size_toArray, List.size_toArray, List.length_take, List.length_take, List.length_drop, List.length_drop, e0]
  omega
theorem snoc_nd {α : Type} {ws : List α} {w : α} (h : ws.Nodup) (n : w ∉ ws) : (ws ++ [w]).Nodup := by
  refine List.nodup_append.mpr ⟨h, List.nodup_cons.mpr ⟨by simp, List.nodup_nil⟩, ?_⟩
  intro a ha b hb e
  exact n (List.mem_singleton.mp hb ▸ e ▸ ha)
noncomputable abbrev sNames : Stmt := top 32
section
variable {P : Program} {w : World} {K : PySem.W.Frag} {mg : Str → Option Value} {base : Heap} {C : Addr}
theorem scNames : FnScope ["_law_source", "_law_many", "_law_letters", "_law_way", "_law_shift", "_law_some", "_law_stem", "_law_at"] ["_law_source", "_law_many"] (defScope sNames) := ⟨rfl, rfl, rfl, by decide +kernel, rfl, by decide +kernel, by decide +kernel⟩
noncomputable def spNames : Sp := fun vs H Q _ => ∃ (p : Addr) (m : Int), vs = [.ref p, .int m] ∧ Src H p ∧ 0 ≤ m ∧ m ≤ 12 ∧
  ∀ (r : Addr) (zs : List Str) (H' : Hp), H r = none → H' r = some (.lst (zs.map V.str)) → zs.length = m.toNat → (∀ z ∈ zs, GoodN z) → zs.Nodup → Keep [p] H H' → Src H' p → Q (.ref r) H'
theorem okNames (G : FunG K mg "_law_names" sNames ["_law_source", "_law_many"]) (CN : Cal P w K mg base CX0 2 "_law_next" ["_law_source", "_law_many"] spNext) (CW : Cal P w K mg base CX0 3 "_law_word" ["_law_source", "_law_most"] spWord) (b_range : Blt mg "range") (b_len : Blt mg "len") :
    Cal P w K mg base CX0 4 "_law_names" ["_law_source", "_law_many"] spNames := by
  refine G.ok scNames (fun vs H Q E h => by obtain ⟨p, m, rfl, _⟩ := h; rfl) (fun f cdv A outer s0 H vs Q E hr h => ?_)
  obtain ⟨p, m, rfl, ⟨a, b, c, hp⟩, m0, m1, q⟩ := h
  have hr3 : Room 3 _ := hr
  have hr2 : Room 2 _ := hr.mono (by decide)
  refine ⟨_, (pss_cons (ps_set (i := 2) scNames.nd rfl (Or.inr rfl) pe_str)
      (pss_cons (ps_set (i := 3) scNames.nd rfl (Or.inl rfl) (pe_cal CN hr2 (pa_cons (pv 0) (pa_cons pe_int pa_nil))))
      (pss_cons (ps_set (i := 4) scNames.nd rfl (Or.inr rfl) (pe_cal CN hr2 (pa_cons (pv 0) (pa_cons pe_int pa_nil))))
      (pss_cons (ps_if (pt_cmpR op_eq (pv 3) pe_int (nomark _)) (@pss_cons _ _ _ _ _ (@ps_setL _ _ _ 5 _ _ _ _ scNames.nd rfl (Or.inl rfl) (Or.inl rfl) (@pa_all _ _ (someN.map V.str) (.cons .str (.cons .str (.cons .str (.cons .str (.cons .str (.cons .str (.cons .str (.cons .str (.cons .str (.cons .str (.cons .str (.cons .str .nil))))))))))))))
      (pss_one (ps_ret (pe_slice sl_list (pe_op op_cat (pe_slice sl_list (pv 5) (po_some (pe_op op_mod (pv 4) pe_int)) po_none) (pe_slice sl_list (pv 5) po_none (po_some (pe_op op_mod (pv 4) pe_int)))) po_none (po_some (pv 1)))))) pss_nil)
      (pss_cons (ps_set (i := 6) scNames.nd rfl (Or.inr rfl) (pe_cal CW hr3 (pa_cons (pv 0) (pa_cons pe_int pa_nil))))
      (pss_cons (ps_set (i := 7) scNames.nd rfl (Or.inr rfl) (pe_cal CN hr2 (pa_cons (pv 0) (pa_cons (pe_op op_add (pe_blt call_len b_len bo_len (pa_cons (pv 6) pa_nil)) pe_int) pa_nil))))
      (pss_cons (ps_if (pt_cmpR op_eq (pv 3) pe_int (nomark _)) (pss_one (ps_ret (pe_lc1 (N := ["_law_source", "_law_many", "_law_letters", "_law_way", "_law_shift", "_law_some", "_law_stem", "_law_at"]) (sc := defScope sNames) (ix := [6, 2, 7, 4]) (by decide +kernel) (pi_range1 rfl b_range.no (pa_cons (pv 1) pa_nil)) (fun _ _ _ _ => pts_nil) (fun _ _ _ _ => (pe_op op_add_str (pe_op op_add_str (pe_slice sl_str (pv 1) po_none (po_some (pv 3))) (pe_ix ix_str (pv 2) (pe_op op_mod (pe_op op_add (pv 4) (pe_op op_mul pe_int (pv 0))) pe_int) (fun _ _ => rfl))) (pe_slice sl_str (pv 1) (po_some (pv 3)) po_none)))))) pss_nil)
      (pss_one (ps_ret (pe_lc1 (N := ["_law_source", "_law_many", "_law_letters", "_law_way", "_law_shift", "_law_some", "_law_stem", "_law_at"]) (sc := defScope sNames) (ix := [0, 2, 4]) (by decide +kernel) (pi_range1 rfl b_range.no (pa_cons (pv 1) pa_nil)) (fun _ _ _ _ => pts_nil) (fun _ _ _ _ => (pe_op op_add_str (pe_cal CW hr3 (pa_cons (pv 1) (pa_cons pe_int pa_nil))) (pe_ix ix_str (pv 2) (pe_op op_mod (pe_op op_add (pv 3) (pe_op op_mul pe_int (pv 0))) pe_int) (fun _ _ => rfl)))))))))))))), ?_⟩
  refine ⟨_, rfl, p, a, b, c, 3, rfl, hp, by decide, by decide, fun wy a1 c1 w0 w1 => ?_⟩
  refine ⟨_, rfl, p, a1, b, c1, 26, rfl, upd_same, by decide, by decide, fun sh a2 c2 h0 h1 => ?_⟩
  rw [upd_upd]
  have k1 : Keep [p] H (upd H p (.lst [.int a2, .int b, .int c2])) := Keep.at (by simp)
  generalize hH1 : upd H p (.lst [.int a2, .int b, .int c2]) = H1 at k1
  have s1 : Src H1 p := ⟨a2, b, c2, by rw [← hH1]; exact upd_same⟩
  refine ⟨_, rfl, rfl, _, rfl, ite2 (fun e0 => ?_) (fun e0 => ?_)⟩
  ·
    refine ⟨by show 12 ≤ sizeLine; decide, fun l hl => ?_⟩
    have k2 : Keep [] H1 (upd H1 l (.lst (someN.map V.str))) := Keep.new hl
    generalize hH2 : upd H1 l (.lst (someN.map V.str)) = H2 at k2
    have h2 : H2 l = some (.lst (someN.map V.str)) := by rw [← hH2]; exact upd_same
    have g0 : 0 ≤ sh % 12 := Int.emod_nonneg _ (by decide)
    refine ⟨_, rfl, _, rfl, _, _, rfl, rfl, by show (0 : Int) < 12; decide, _, rfl, l, _, rfl, .of h2, fun u hu => ?_⟩
    rw [cut_from V.str someN g0]
    have k3 : Keep [] H2 (upd H2 u (.lst ((someN.drop (sh % 12).toNat).map V.str))) := Keep.new hu
    refine ⟨_, rfl, _, rfl, _, _, rfl, rfl, by show (0 : Int) < 12; decide, _, rfl, l, _, rfl, .of (k3 _ _ (by simp) h2), fun u2 hu2 => ?_⟩
    rw [cut_to V.str someN g0]
    obtain ⟨_, u12⟩ := upd_none hu2
    refine ⟨u, u2, _, _, rfl, rfl, by rw [upd_ne u12.symm, upd_same], upd_same, by rw [List.length_map, List.length_map, List.length_drop, List.length_take, sizeLine_eq]; have : someN.length = 12 := rfl; omega, fun u3 hu3 => ?_⟩
    rw [← List.map_append]
    refine ⟨_, rfl, m, rfl, u3, _, rfl, .of upd_same, fun r hr' => ?_⟩
    rw [cut_to V.str _ m0]
    have k4 : Keep [] H1 (upd (upd (upd H2 u (.lst ((someN.drop (sh % 12).toNat).map V.str))) u2 (.lst ((someN.take (sh % 12).toNat).map V.str))) u3 (.lst ((someN.drop (sh % 12).toNat ++ someN.take (sh % 12).toNat).map V.str))) := (k2.trans k3).trans ((Keep.new hu2).trans (Keep.new hu3))
    have n1 : H1 r = none := k4.none (by simp) hr'
    have pr : r ≠ p := s1.ne n1
    refine q r _ _ (k1.none (by simp [pr]) n1) upd_same ?_ ?_ ?_ (k1.trans ((k4.trans (Keep.new hr')).mono (by simp))) ((s1.on k4).on (Keep.new hr'))
    · rw [List.length_take, (rot_perm _ _).length_eq]
      have : someN.length = 12 := rfl
      omega
    · intro z hz
      exact some_good z ((rot_perm _ _).mem_iff.mp (List.mem_of_mem_take hz))
    · exact ((rot_perm _ _).nodup_iff.mpr some_nd).sublist (List.take_sublist _ _)
  refine ⟨_, rfl, p, 7, rfl, s1, by decide, by decide, fun stem H2 lows lens k2 s2 => ?_⟩
  obtain ⟨x, y, z, hp2⟩ := s2
  have ls : stem.length ≤ 7 := by omega
  refine ⟨_, rfl, _, rfl, _, _, rfl, ⟨by rw [sizeLine_eq]; omega, rfl⟩, _, _, rfl, rfl, p, x, y, z, _, rfl, hp2, by omega, by omega, fun at' x1 z1 t0 t1 => ?_⟩
  have k3 : Keep [p] H2 (upd H2 p (.lst [.int x1, .int y, .int z1])) := Keep.at (by simp)
  generalize hH3 : upd H2 p (.lst [.int x1, .int y, .int z1]) = H3 at k3
  have s3 : Src H3 p := ⟨x1, y, z1, by rw [← hH3]; exact upd_same⟩
  have k03 := (k1.trans k2).trans k3
  refine ⟨_, rfl, rfl, _, rfl, ite2 (fun e1 => ?_) (fun e1 => ?_)⟩
  ·
    refine ⟨_, rfl, m, rfl, by omega, by omega, fun acc ha => ?_⟩
    have pa : acc ≠ p := s3.ne ha
    have na : H acc = none := k03.none (by simp [pa]) ha
    have cl := cut_lens (x := stem) t0 (by omega)
    refine lc_range0 (by rw [sizeLine_eq]; omega) (fun i ys τ H4 => ∃ (ws : List Str) (k : Option V), τ = k :: [some (.str stem), some (.str abc), some (.int at'), some (.int sh)] ∧ ys = ws.map V.str ∧ ws.length = i ∧ (∀ z ∈ ws, GoodN z) ∧ ws.Nodup ∧ (∀ z ∈ ws, ∃ k, k < i ∧ z = Txt.slice stem none (some at') ++ (⟨#[chN sh k]⟩ : Str) ++ Txt.slice stem (some at') none) ∧ Keep [acc] H3 H4 ∧ H4 acc = some (.lst ys)) ?_ ?_ ?_ ?_
    · exact ⟨[], none, rfl, rfl, rfl, (fun z hz => by cases hz), List.nodup_nil, (fun z hz => by cases hz), Keep.at (by simp), upd_same⟩
    · rintro i ys τ H4 ⟨ws, k, rfl, rfl, hl, _, _, _, _, h4⟩
      exact ⟨h4, by rw [List.length_map]; omega⟩
    · rintro i ys τ H4 hi ⟨ws, k, rfl, rfl, hl, gw, nw, tw, kp, h4⟩
      obtain ⟨ec, mc⟩ := chN_at sh i
      refine ⟨_, rfl, _, rfl, at', rfl, stem, rfl, by rw [sizeLine_eq]; omega, _, rfl, _, rfl, _, rfl, _, _, rfl, rfl, ?_, _, _, rfl, rfl, _, _, rfl, rfl, by show (0 : Int) < 26; decide, _, _, chN sh i, rfl, rfl, by decide, ec, _, _, rfl, rfl, ?_, _, rfl, _, rfl, at', rfl, stem, rfl, by rw [sizeLine_eq]; omega, _, _, rfl, rfl, ?_, h4, ws ++ [Txt.slice stem none (some at') ++ (⟨#[chN sh i]⟩ : Str) ++ Txt.slice stem (some at') none], _, rfl, by simp, by simp [hl], ?_, ?_, ?_, kp.trans (Keep.at (by simp)), upd_same⟩
      · exact .inl ⟨by decide, by decide⟩
      · have := Txt.slice_le stem none (some at')
        rw [sizeLine_eq]; show _ + 1 ≤ _; omega
      · rw [len_app, sizeLine_eq]; show _ + 1 + _ ≤ _; omega
      · intro z hz
        rcases List.mem_append.mp hz with z1 | z1
        · exact gw z z1
        · rw [List.mem_singleton.mp z1]
          have el : (Txt.slice stem none (some at') ++ (⟨#[chN sh i]⟩ : Str) ++ Txt.slice stem (some at') none).length = stem.length + 1 := by rw [len_app, len_app]; show _ + 1 + _ = _; omega
          exact ⟨name_of (low_app (low_app (low_slice lows _ _) (low_one mc)) (low_slice lows _ _)) (by omega) (by omega), by omega⟩
      · refine snoc_nd nw fun hm => ?_
        obtain ⟨k', hk, e⟩ := tw _ hm
        have := chN_inj (by omega) (by omega) (mid_inj e)
        omega
      · intro z hz
        rcases List.mem_append.mp hz with z1 | z1
        · obtain ⟨k', hk, e⟩ := tw z z1
          exact ⟨k', by omega, e⟩
        · exact ⟨i, by omega, List.mem_singleton.mp z1⟩
    · rintro ys τ H4 ⟨ws, k, rfl, rfl, hl, gw, nw, tw, kp, h4⟩
      obtain ⟨x3, y3, z3, e3⟩ := id s3
      exact q acc ws H4 na h4 hl gw nw (k03.trans ((kp.drop ha).mono (by simp))) ⟨x3, y3, z3, kp _ _ (by simp [Ne.symm pa]) e3⟩
  ·
    refine ⟨_, rfl, m, rfl, by omega, by omega, fun acc ha => ?_⟩
    have pa : acc ≠ p := s3.ne ha
    have na : H acc = none := k03.none (by simp [pa]) ha
    refine lc_range0 (by rw [sizeLine_eq]; omega) (fun i ys τ H4 => ∃ (ws : List Str) (k : Option V), τ = k :: [some (.ref p), some (.str abc), some (.int sh)] ∧ ys = ws.map V.str ∧ ws.length = i ∧ (∀ z ∈ ws, GoodN z) ∧ ws.Nodup ∧ (∀ z ∈ ws, ∃ k, k < i ∧ ∃ u : Str, z = u ++ (⟨#[chN sh k]⟩ : Str)) ∧ Keep [acc, p] H3 H4 ∧ Src H4 p ∧ H4 acc = some (.lst ys)) ?_ ?_ ?_ ?_
    · exact ⟨[], none, rfl, rfl, rfl, (fun z hz => by cases hz), List.nodup_nil, (fun z hz => by cases hz), Keep.at (by simp), s3.on (Keep.new ha), upd_same⟩
    · rintro i ys τ H4 ⟨ws, k, rfl, rfl, hl, _, _, _, _, _, h4⟩
      exact ⟨h4, by rw [List.length_map]; omega⟩
    · rintro i ys τ H4 hi ⟨ws, k, rfl, rfl, hl, gw, nw, tw, kp, s4, h4⟩
      obtain ⟨ec, mc⟩ := chN_at sh i
      refine ⟨_, rfl, p, 7, rfl, s4, by decide, by decide, fun u H5 lo le k5 s5 => ?_⟩
      have h5 := k5 _ _ (by simp [pa]) h4
      refine ⟨_, rfl, _, rfl, _, rfl, _, _, rfl, rfl, ?_, _, _, rfl, rfl, _, _, rfl, rfl, by show (0 : Int) < 26; decide, _, _, chN sh i, rfl, rfl, by decide, ec, _, _, rfl, rfl, ?_, h5, ws ++ [u ++ (⟨#[chN sh i]⟩ : Str)], _, rfl, by simp, by simp [hl], ?_, ?_, ?_, (kp.trans (k5.mono (by simp))).trans (Keep.at (by simp)), ?_, upd_same⟩
      · exact .inl ⟨by decide, by decide⟩
      · rw [sizeLine_eq]; show _ + 1 ≤ _; omega
      · intro z hz
        rcases List.mem_append.mp hz with z1 | z1
        · exact gw z z1
        · rw [List.mem_singleton.mp z1]
          have el : (u ++ (⟨#[chN sh i]⟩ : Str)).length = u.length + 1 := by rw [len_app]; rfl
          exact ⟨name_of (low_app lo (low_one mc)) (by omega) (by omega), by omega⟩
      · refine snoc_nd nw fun hm => ?_
        obtain ⟨k', hk, u', e⟩ := tw _ hm
        have := chN_inj (by omega) (by omega) (end_inj e)
        omega
      · intro z hz
        rcases List.mem_append.mp hz with z1 | z1
        · obtain ⟨k', hk, e⟩ := tw z z1
          exact ⟨k', by omega, e⟩
        · exact ⟨i, by omega, u, List.mem_singleton.mp z1⟩
      · obtain ⟨x5, y5, z5, e5⟩ := s5
        exact ⟨x5, y5, z5, by rw [upd_ne (Ne.symm pa)]; exact e5⟩
    · rintro ys τ H4 ⟨ws, k, rfl, rfl, hl, gw, nw, tw, kp, s4, h4⟩
      exact q acc ws H4 na h4 hl gw nw (k03.trans (kp.drop ha)) s4
end
end K81
set_option Elab.async false
set_option linter.all false
set_option maxRecDepth 100000
set_option maxHeartbeats 4000000
namespace K81
open PySem L2
noncomputable def Grown (zs : List Str) (ps : List (Str × Str)) : Prop := ∀ (j : Nat) (t : Str × Str), ps[j]? = some t → ∃ (o : Nat) (a b : Str), o ≤ j ∧ zs[j + 1]? = some a ∧ zs[o]? = some b ∧ (t = (a, b) ∨ t = (b, a))
theorem grown_conn {zs : List Str} {ps : List (Str × Str)} (h : Grown zs ps) (hl : ps.length + 1 = zs.length) : Conn zs ps := by
  intro P z0 hz p0 each
  obtain ⟨c, hc⟩ : ∃ c, zs[0]? = some c := ⟨zs[0], List.getElem?_eq_getElem (by omega)⟩
  have all : ∀ (n j : Nat) (a : Str), j ≤ n → zs[j]? = some a → (P a ↔ P c) := by
    intro n
    induction n with
    | zero =>
      intro j a hj ha
      have : j = 0 := by omega
      subst this
      rw [ha] at hc; cases hc; exact Iff.rfl
    | succ n ih =>
      intro j a hj ha
      cases j with
      | zero => exact ih 0 a (Nat.zero_le _) ha
      | succ j =>
        have jl : j + 1 < zs.length := (List.getElem?_eq_some_iff.mp ha).1
        have jp : j < ps.length := by omega
        obtain ⟨o, a', b, ho, e1, e2, e3⟩ := h j _ (List.getElem?_eq_getElem jp)
        rw [ha] at e1; cases e1
        have eb := ih o b (by omega) e2
        have et := each _ (List.getElem_mem jp)
        rcases e3 with e3 | e3 <;> rw [e3] at et
        · exact et.trans eb
        · exact et.symm.trans eb
  intro z hz'
  obtain ⟨i, hi⟩ := List.getElem?_of_mem hz
  obtain ⟨j, hj⟩ := List.getElem?_of_mem hz'
  exact (all j j z (Nat.le_refl _) hj).mpr ((all i i z0 (Nat.le_refl _) hi).mp p0)
theorem grown_ties {zs : List Str} {ps : List (Str × Str)} (h : Grown zs ps) (nd : zs.Nodup) : ∀ t ∈ ps, TieOk zs t := by
  intro t ht
  obtain ⟨j, hj⟩ := List.getElem?_of_mem ht
  obtain ⟨o, a, b, ho, e1, e2, e3⟩ := h j t hj
  have ne : a ≠ b := fun e => by
    subst e
    have := (List.getElem?_inj (List.getElem?_eq_some_iff.mp e1).1 nd).mp (e1.trans e2.symm)
    omega
  have ma := List.mem_of_getElem? e1
  have mb := List.mem_of_getElem? e2
  rcases e3 with rfl | rfl
  · exact ⟨ma, mb, ne⟩
  · exact ⟨mb, ma, ne.symm⟩
theorem grown_snoc {zs : List Str} {ps : List (Str × Str)} (h : Grown zs ps) {t : Str × Str} {o : Nat} {a b : Str} (ho : o ≤ ps.length) (e1 : zs[ps.length + 1]? = some a) (e2 : zs[o]? = some b) (e3 : t = (a, b) ∨ t = (b, a)) : Grown zs (ps ++ [t]) := by
  intro j u hu
  by_cases jl : j < ps.length
  · rw [List.getElem?_append_left jl] at hu
    exact h j u hu
  · rw [List.getElem?_append_right (by omega)] at hu
    have j0 : j - ps.length = 0 := by
      cases e : j - ps.length with
      | zero => rfl
      | succ k => rw [e] at hu; simp at hu
    rw [j0] at hu
    have e : t = u := by simpa using hu
    subst e
    have j' : j = ps.length := by omega
    subst j'
    exact ⟨o, a, b, ho, e1, e2, e3⟩
theorem at_str {zs : List Str} {o : Nat} {b : Str} (h : zs[o]? = some b) : atI (zs.map V.str) (o : Int) = some (.str b) := by
  have ol : o < zs.length := (List.getElem?_eq_some_iff.mp h).1
  obtain ⟨v, e1, e2⟩ := atI_in (xs := zs.map V.str) (i := (o : Int)) (by omega) (by rw [List.length_map]; omega)
  rw [e1]
  rw [Int.toNat_natCast, List.getElem?_map, h] at e2
  exact e2.symm
noncomputable abbrev sTree : Stmt := top 35
section
variable {P : Program} {w : World} {K : PySem.W.Frag} {mg : Str → Option Value} {base : Heap} {C : Addr}
theorem scTree : FnScope ["_law_source", "_law_most", "_law_way", "_law_names_here", "_law_ties", "_law_k", "_law_other"] ["_law_source", "_law_most"] (defScope sTree) := ⟨rfl, rfl, rfl, by decide +kernel, rfl, by decide +kernel, by decide +kernel⟩
noncomputable def spTree : Sp := fun vs H Q _ => ∃ (p : Addr) (m : Int), vs = [.ref p, .int m] ∧ Src H p ∧ 1 ≤ m ∧ m ≤ 12 ∧
  ∀ (t nh th : Addr) (zs : List Str) (ps : List (Str × Str)) (H' : Hp), H t = none → H nh = none → H th = none → H' t = some (.tup [.ref nh, .ref th]) → H' nh = some (.lst (zs.map V.str)) → Rows H' th (ps.map pairV) → (∀ z ∈ zs, GoodN z) → zs.Nodup → 1 ≤ zs.length → zs.length ≤ 12 → ps.length + 1 = zs.length → (∀ p ∈ ps, TieOk zs p) → Conn zs ps → Grown zs ps → Keep [p] H H' → Src H' p → Q (.ref t) H'
theorem okTree (G : FunG K mg "_law_tree" sTree ["_law_source", "_law_most"]) (CN : Cal P w K mg base CX0 2 "_law_next" ["_law_source", "_law_many"] spNext) (CNM : Cal P w K mg base CX0 4 "_law_names" ["_law_source", "_law_many"] spNames) (CSH : Cal P w K mg base CX0 3 "_law_shuffled" ["_law_source", "_law_names_here"] spShuf) (b_range : Blt mg "range") (b_len : Blt mg "len") :
    Cal P w K mg base CX0 5 "_law_tree" ["_law_source", "_law_most"] spTree := by
  refine G.ok scTree (fun vs H Q E h => by obtain ⟨p, m, rfl, _⟩ := h; rfl) (fun f cdv A outer s0 H vs Q E hr h => ?_)
  obtain ⟨p, m, rfl, ⟨a, b, c, hp⟩, m0, m1, q⟩ := h
  have hr4 : Room 4 _ := hr
  have hr3 : Room 3 _ := hr.mono (by decide)
  have hr2 : Room 2 _ := hr.mono (by decide)
  refine ⟨_, (pss_cons (ps_set (i := 2) scTree.nd rfl (Or.inl rfl) (pe_cal CN hr2 (pa_cons (pv 0) (pa_cons pe_int pa_nil))))
      (pss_cons (ps_set (i := 3) scTree.nd rfl (Or.inl rfl) (pe_cal CSH hr3 (pa_cons (pv 0) (pa_cons (pe_cal CNM hr4 (pa_cons (pv 0) (pa_cons (pe_op op_add pe_int (pe_cal CN hr2 (pa_cons (pv 0) (pa_cons (pv 1) pa_nil)))) pa_nil))) pa_nil))))
      (pss_cons (ps_set (i := 4) scTree.nd rfl (Or.inl rfl) (pe_lst pa_nil))
      (pss_cons (ps_for PassesOwn.never rfl (pi_range2 rfl b_range.no (pa_cons pe_int (pa_cons (pe_blt call_len b_len bo_len (pa_cons (pv 3) pa_nil)) pa_nil))) (pg_name (i := 5) scTree.nd rfl (Or.inl rfl)) (pss_cons (ps_set (i := 6) scTree.nd rfl (Or.inl rfl) (pe_ix ix_lstH (pv 3) (pe_ix ix_lstH (pe_lst (pa_cons (pe_op op_sub (pv 5) pe_int) (pa_cons pe_int (pa_cons (pe_cal CN hr2 (pa_cons (pv 0) (pa_cons (pv 5) pa_nil))) (pa_cons (pe_cal CN hr2 (pa_cons (pv 0) (pa_cons (pv 5) pa_nil))) pa_nil))))) (pv 2) (fun _ _ => rfl)) (fun _ _ => rfl)))
      (pss_one (ps_expr (pe_bm PySem.F.plainAttrs_list PySem.F.slot_list_append PySem.F.type_list_append mt_append (pv 4) (pa_cons (pe_ix ix_lstH (pe_lst (pa_cons (pe_tup (pa_cons (pe_ix ix_lstH (pv 3) (pv 5) (fun _ _ => rfl)) (pa_cons (pv 6) pa_nil))) (pa_cons (pe_tup (pa_cons (pv 6) (pa_cons (pe_ix ix_lstH (pv 3) (pv 5) (fun _ _ => rfl)) pa_nil))) pa_nil))) (pe_cal CN hr2 (pa_cons (pv 0) (pa_cons pe_int pa_nil))) (fun _ _ => rfl)) pa_nil))))))
      (pss_one (ps_ret (pe_tup (pa_cons (pv 3) (pa_cons (pv 4) pa_nil))))))))), ?_⟩
  refine ⟨_, rfl, p, a, b, c, 4, rfl, hp, by decide, by decide, fun wy a1 c1 w0 w1 => ?_⟩
  refine ⟨_, rfl, _, rfl, _, rfl, _, rfl, p, a1, b, c1, m, rfl, upd_same, by omega, by omega, fun v a2 c2 v0 v1 => ?_⟩
  rw [upd_upd]
  have k1 : Keep [p] H (upd H p (.lst [.int a2, .int b, .int c2])) := Keep.at (by simp)
  generalize hH1 : upd H p (.lst [.int a2, .int b, .int c2]) = H1 at k1
  have s1 : Src H1 p := ⟨a2, b, c2, by rw [← hH1]; exact upd_same⟩
  refine ⟨_, _, rfl, rfl, p, _, rfl, s1, by omega, by omega, fun r zs0 H2 hr0 h2 l2 g2 n2 k2 s2 => ?_⟩
  refine ⟨p, r, zs0, rfl, s2, h2, by omega, fun nh zs H3 hnh pz h3 k3 s3 => ?_⟩
  have lz : zs.length = zs0.length := pz.length_eq
  have gz : ∀ z ∈ zs, GoodN z := fun z hz => g2 z (pz.mem_iff.mp hz)
  have nd : zs.Nodup := pz.nodup_iff.mpr n2
  have k03 : Keep [p] H H3 := (k1.trans k2).trans k3
  have pn : nh ≠ p := s2.ne hnh
  have nnh : H nh = none := (k1.trans k2).none (by simp [pn]) hnh
  refine ⟨Nat.zero_le _, fun th hth => ?_⟩
  have pth : th ≠ p := s3.ne hth
  have nth : H th = none := k03.none (by simp [pth]) hth
  have hn : nh ≠ th := ne_of_none h3 hth
  have k4 : Keep [] H3 (upd H3 th (.lst [])) := Keep.new hth
  have h44 := k4 _ _ (by simp) h3
  refine ⟨_, rfl, _, _, rfl, .inl ⟨_, .of h44, rfl⟩, 1, _, rfl, by rw [List.length_map]; omega, ?_⟩
  refine for_range (fun i σ H4 => ∃ (ps : List (Str × Str)) (qs : List Addr) (v5 v6 : Option V), σ = [some (.ref p), some (.int m), some (.int wy), some (.ref nh), some (.ref th), v5, v6] ∧ ps.length = i ∧ Grown zs ps ∧ H4 th = some (.lst (qs.map V.ref)) ∧ Paired (fun q r => H4 q = some (.tup r)) qs (ps.map pairV) ∧ Src H4 p ∧ Keep [th, p] H3 H4) ?_ ?_ ?_
  · exact ⟨[], [], _, _, rfl, rfl, (fun j t e => by simp at e), upd_same, .nil, s3.on k4, Keep.at (by simp)⟩
  · rintro i σ H4 hi ⟨ps, qs, v5, v6, rfl, hl, gr, ht, pq, ⟨x, y, z, hs⟩, kp⟩
    rw [List.length_map] at hi
    have h4 := kp _ _ (by simp [hn, pn]) h3
    have il : i + 1 < zs.length := by omega
    refine ⟨_, rfl, _, rfl, _, _, rfl, rfl, _, rfl, _, rfl, p, x, y, z, _, rfl, hs, by omega, by omega, fun u1 x1 z1 u10 u11 => ?_⟩
    refine ⟨_, rfl, _, rfl, p, x1, y, z1, _, rfl, upd_same, by omega, by omega, fun u2 x2 z2 u20 u21 => ⟨by show 4 ≤ sizeLine; decide, fun dl hdl => ?_⟩⟩
    rw [upd_upd] at hdl ⊢
    have k5 : Keep [p] H4 (upd H4 p (.lst [.int x2, .int y, .int z2])) := Keep.at (by simp)
    generalize hH5 : upd H4 p (.lst [.int x2, .int y, .int z2]) = H5 at k5 hdl ⊢
    have s5 : Src H5 p := ⟨x2, y, z2, by rw [← hH5]; exact upd_same⟩
    obtain ⟨o, oi, eo⟩ : ∃ o : Nat, o ≤ i ∧ atI [V.int (1 + (i : Int) - 1), .int 0, .int u1, .int u2] wy = some (.int (o : Int)) := by
      rcases (show wy = 0 ∨ wy = 1 ∨ wy = 2 ∨ wy = 3 by omega) with rfl | rfl | rfl | rfl
      · exact ⟨i, Nat.le_refl _, by show some (V.int (1 + (i : Int) - 1)) = _; rw [show 1 + (i : Int) - 1 = i by omega]⟩
      · exact ⟨0, Nat.zero_le _, rfl⟩
      · exact ⟨u1.toNat, by omega, by show some (V.int u1) = _; rw [show ((u1.toNat : Nat) : Int) = u1 by omega]⟩
      · exact ⟨u2.toNat, by omega, by show some (V.int u2) = _; rw [show ((u2.toNat : Nat) : Int) = u2 by omega]⟩
    have eb : zs[o]? = some (zs[o]'(by omega)) := List.getElem?_eq_getElem (by omega)
    have ea : zs[i + 1]? = some (zs[i + 1]'il) := List.getElem?_eq_getElem il
    generalize zs[o]'(by omega) = zb at eb
    generalize zs[i + 1]'il = za at ea
    have k6 : Keep [] H5 (upd H5 dl (.lst [.int (1 + (i : Int) - 1), .int 0, .int u1, .int u2])) := Keep.new hdl
    refine ⟨_, rfl, dl, _, wy, _, rfl, rfl, upd_same, eo, nh, _, o, .str zb, rfl, rfl, ?_, at_str eb, ?_⟩
    · exact k6 _ _ (by simp) (k5 _ _ (by simp [pn]) h4)
    generalize upd H5 dl (.lst [.int (1 + (i : Int) - 1), .int 0, .int u1, .int u2]) = H6 at k6
    have k46 : Keep [p] H4 H6 := k5.trans (k6.mono (by simp))
    have h6 := k46 _ _ (by simp [pn]) h4
    have s6 := s5.on k6
    have ht6 := k46 _ _ (by simp [pth]) ht
    have ek : atI (zs.map V.str) (1 + (i : Int)) = some (.str za) := by rw [show 1 + (i : Int) = ((i + 1 : Nat) : Int) by omega]; exact at_str ea
    refine ⟨_, rfl, Or.inl ⟨rfl, _, .of ht6⟩, _, rfl, _, rfl, nh, _, _, .str za, rfl, rfl, h6, ek, _, rfl, by show 2 ≤ sizeLine; decide, fun t1 ht1 => ?_⟩
    have k7 : Keep [] H6 (upd H6 t1 (.tup [.str za, .str zb])) := Keep.new ht1
    generalize hH7 : upd H6 t1 (.tup [.str za, .str zb]) = H7 at k7
    have e7 : H7 t1 = some (.tup [.str za, .str zb]) := by rw [← hH7]; exact upd_same
    refine ⟨_, rfl, _, rfl, _, rfl, nh, _, _, .str za, rfl, rfl, k7 _ _ (by simp) h6, ek, by show 2 ≤ sizeLine; decide, fun t2 ht2 => ⟨by show 2 ≤ sizeLine; decide, fun dl2 hdl2 => ?_⟩⟩
    have k8 : Keep [] H7 (upd H7 t2 (.tup [.str zb, .str za])) := Keep.new ht2
    generalize hH8 : upd H7 t2 (.tup [.str zb, .str za]) = H8 at k8 hdl2 ⊢
    have e8 : H8 t2 = some (.tup [.str zb, .str za]) := by rw [← hH8]; exact upd_same
    have k9 : Keep [] H8 (upd H8 dl2 (.lst [.ref t1, .ref t2])) := Keep.new hdl2
    generalize hH9 : upd H8 dl2 (.lst [.ref t1, .ref t2]) = H9 at k9 ⊢
    have e9 : H9 dl2 = some (.lst [.ref t1, .ref t2]) := by rw [← hH9]; exact upd_same
    have k69 := k7.trans (k8.trans k9)
    obtain ⟨x9, y9, z9, hs9⟩ := s6.on k69
    refine ⟨_, rfl, p, x9, y9, z9, 2, rfl, hs9, by decide, by decide, fun v x10 z10 v0 v1 => ?_⟩
    have k10 : Keep [p] H9 (upd H9 p (.lst [.int x10, .int y9, .int z10])) := Keep.at (by simp)
    generalize hH10 : upd H9 p (.lst [.int x10, .int y9, .int z10]) = H10 at k10
    have s10 : H10 p = some (.lst [.int x10, .int y9, .int z10]) := by rw [← hH10]; exact upd_same
    have pd : dl2 ≠ p := ((s6.on k7).on k8).ne hdl2
    have pt1 : t1 ≠ p := s6.ne ht1
    have pt2 : t2 ≠ p := (s6.on k7).ne ht2
    have k4A : Keep [p] H4 H10 := (k46.trans (k69.mono (by simp))).trans k10
    have htA := k4A _ _ (by simp [pth]) ht
    have notT : ∀ u ∈ [p], ∀ xs, H4 u ≠ some (.tup xs) := fun u hu xs e => by rw [List.mem_singleton.mp hu, hs] at e; cases e
    have pqA := paired_far k4A notT pq
    have lq := paired_len pq
    rw [List.length_map] at lq
    have fin : ∀ (t : Addr) (pr : Str × Str), H10 t = some (.tup (pairV pr)) → (pr = (za, zb) ∨ pr = (zb, za)) → ∃ (ps' : List (Str × Str)) (qs' : List Addr) (v5 v6 : Option V), [some (.ref p), some (.int m), some (.int wy), some (.ref nh), some (.ref th), some (.int (1 + (i : Int))), some (.str zb)] = [some (.ref p), some (.int m), some (.int wy), some (.ref nh), some (.ref th), v5, v6] ∧ ps'.length = i + 1 ∧ Grown zs ps' ∧ upd H10 th (.lst (qs.map V.ref ++ [.ref t])) th = some (.lst (qs'.map V.ref)) ∧ Paired (fun q r => upd H10 th (.lst (qs.map V.ref ++ [.ref t])) q = some (.tup r)) qs' (ps'.map pairV) ∧ Src (upd H10 th (.lst (qs.map V.ref ++ [.ref t]))) p ∧ Keep [th, p] H3 (upd H10 th (.lst (qs.map V.ref ++ [.ref t]))) := by
      intro t pr et ep
      have kf : Keep [th] H10 (upd H10 th (.lst (qs.map V.ref ++ [.ref t]))) := Keep.at (by simp)
      have tt : t ≠ th := fun e => by rw [e, htA] at et; cases et
      refine ⟨ps ++ [pr], qs ++ [t], _, _, rfl, by simp [hl], grown_snoc gr (by omega) (by rw [hl]; exact ea) eb ep, by rw [upd_same, List.map_append]; rfl, ?_, ⟨x10, y9, z10, by rw [upd_ne pth.symm]; exact s10⟩, ?_⟩
      · rw [List.map_append]
        refine paired_snoc (paired_far kf (fun u hu xs e => by rw [List.mem_singleton.mp hu, htA] at e; cases e) pqA) ?_
        exact kf _ _ (by simp [tt]) et
      · exact (kp.trans (k4A.mono (by simp))).trans (kf.mono (by simp))
    rcases (show v = 0 ∨ v = 1 by omega) with rfl | rfl
    · refine ⟨dl2, _, 0, _, rfl, rfl, k10 _ _ (by simp [pd]) e9, rfl, th, _, _, rfl, rfl, htA, by rw [List.length_map, sizeLine_eq]; omega, ?_⟩
      exact fin t1 (za, zb) (k10 _ _ (by simp [pt1]) ((k8.trans k9) _ _ (by simp) e7)) (.inl rfl)
    · refine ⟨dl2, _, 1, _, rfl, rfl, k10 _ _ (by simp [pd]) e9, rfl, th, _, _, rfl, rfl, htA, by rw [List.length_map, sizeLine_eq]; omega, ?_⟩
      exact fin t2 (zb, za) (k10 _ _ (by simp [pt2]) (k9 _ _ (by simp) e8)) (.inr rfl)
  · rintro σ H4 ⟨ps, qs, v5, v6, rfl, hl, gr, ht, pq, s4, kp⟩
    rw [List.length_map] at hl
    have h4 := kp _ _ (by simp [hn, pn]) h3
    refine ⟨_, rfl, _, rfl, by show 2 ≤ sizeLine; decide, fun t htn => ?_⟩
    have kt : Keep [] H4 (upd H4 t (.tup [.ref nh, .ref th])) := Keep.new htn
    have pt : t ≠ p := s4.ne htn
    have tth : t ≠ th := fun e => by rw [e, ht] at htn; cases htn
    have k04 : Keep [th, p] H H4 := (k03.mono (by simp)).trans kp
    have lp : ps.length + 1 = zs.length := by omega
    refine q t nh th zs ps _ (k04.none (by simp [pt, tth]) htn) nnh nth upd_same (kt _ _ (by simp) h4) ⟨qs, kt _ _ (by simp) ht, paired_far kt (fun u hu => by cases hu) pq⟩ gz nd (by omega) (by omega) lp (grown_ties gr nd) (grown_conn gr lp) gr ?_ (s4.on kt)
    exact (k04.drop nth).trans (kt.mono (by simp))
end
end K81
set_option Elab.async false
set_option linter.all false
set_option maxRecDepth 100000
set_option maxHeartbeats 4000000
namespace K81
open PySem L2
theorem conn_len : ∀ (n : Nat) (zs : List Str) (ps : List (Str × Str)), ps.length = n → zs.Nodup → Conn zs ps → zs.length ≤ n + 1 := by
  intro n
  induction n with
  | zero =>
    intro zs ps hl nd cn
    match zs with
    | [] => simp
    | [z] => simp
    | z :: y :: zs =>
      have e : ps = [] := List.length_eq_zero_iff.mp hl
      subst e
      have := cn (· = z) z List.mem_cons_self rfl (fun t ht => by cases ht) y (by simp)
      subst this
      simp at nd
  | succ n ih =>
    intro zs ps hl nd cn
    cases ps with
    | nil => simp at hl
    | cons t ps =>
      obtain ⟨a, b⟩ := t
      have fb : (if b = a then b else b) = b := by split <;> rfl
      have r := ih (zs.erase a) (ps.map fun t => ((if t.1 = a then b else t.1), (if t.2 = a then b else t.2))) (by simpa using hl) (nd.erase a) (fun P z0 h0 p0 each z hz => by
        obtain ⟨x0, x1⟩ := nd.mem_erase_iff.mp h0
        obtain ⟨y0, y1⟩ := nd.mem_erase_iff.mp hz
        have r := cn (fun x => P (if x = a then b else x)) z0 x1 (by rw [if_neg x0]; exact p0) (fun t ht => by
          rcases List.mem_cons.mp ht with e | e
          · subst e
            dsimp only
            rw [if_pos rfl, fb]
          · exact each _ (List.mem_map.mpr ⟨t, e, rfl⟩)) z y1
        rwa [if_neg y0] at r)
      rw [List.length_erase] at r
      split at r <;> omega
noncomputable def SameT (h : Str) (t u : Str × Str) : Prop := ∃ y, (t = (h, y) ∨ t = (y, h)) ∧ (u = (h, y) ∨ u = (y, h))
theorem no_twice {zs : List Str} {ps : List (Str × Str)} (cn : Conn zs ps) (nd : zs.Nodup) (hl : ps.length + 1 = zs.length) {l1 l2 : List (Str × Str)} {t u : Str × Str} {h : Str} (e : ps = l1 ++ t :: l2) (hu : u ∈ l2) (s : SameT h t u) : False := by
  have c2 : Conn zs (l1 ++ l2) := by
    intro P z0 hz p0 each z hz'
    refine cn P z0 hz p0 (fun v hv => ?_) z hz'
    rw [e] at hv
    rcases List.mem_append.mp hv with g | g
    · exact each v (List.mem_append.mpr (.inl g))
    · rcases List.mem_cons.mp g with g | g
      · subst g
        have k := each u (List.mem_append.mpr (.inr hu))
        obtain ⟨y, s1, s2⟩ := s
        rcases s1 with rfl | rfl <;> rcases s2 with rfl | rfl
        · exact k
        · exact k.symm
        · exact k.symm
        · exact k
      · exact each v (List.mem_append.mpr (.inr g))
  have r := conn_len _ zs _ rfl nd c2
  rw [e] at hl
  simp only [List.length_append, List.length_cons] at r hl
  omega
structure GT (zs : List Str) (ps : List (Str × Str)) : Prop where
  g : ∀ z ∈ zs, GoodN z
  nd : zs.Nodup
  l1 : 1 ≤ zs.length
  l2 : zs.length ≤ 12
  lp : ps.length + 1 = zs.length
  t : ∀ p ∈ ps, TieOk zs p
  c : Conn zs ps
theorem GT.norm {zs zs' : List Str} {ps ps' : List (Str × Str)} (h : GT zs ps) (pz : zs'.Perm zs) (pp : ps'.Perm (ps.map normP)) : GT zs' ps' := by
  refine ⟨fun z hz => h.g z (pz.mem_iff.mp hz), pz.nodup_iff.mpr h.nd, by rw [pz.length_eq]; exact h.l1, by rw [pz.length_eq]; exact h.l2, by rw [pz.length_eq, pp.length_eq, List.length_map]; exact h.lp, fun t ht => ?_, conn_norm h.c pz pp⟩
  obtain ⟨u, hu, e⟩ := List.mem_map.mp (pp.mem_iff.mp ht)
  rw [← e]
  obtain ⟨a, b, c⟩ := tie_norm (h.t u hu)
  exact ⟨pz.mem_iff.mpr a, pz.mem_iff.mpr b, c⟩
theorem GT.unlike {zs : List Str} {ps : List (Str × Str)} (g : GT zs ps) {l1 l2 : List (Str × Str)} {t : Str × Str} (e : ps = l1 ++ t :: l2) : t ∉ l2 := fun h => no_twice g.c g.nd g.lp e h ⟨t.2, .inl rfl, .inl rfl⟩
noncomputable def Sep (ps : List (Str × Str)) (a b : Str) : Prop := ∃ P : Str → Prop, P a ∧ ¬ P b ∧ ∀ t ∈ ps, P t.1 ↔ P t.2
theorem GT.sep {zs : List Str} {ps : List (Str × Str)} (g : GT zs ps) {l1 l2 : List (Str × Str)} {t : Str × Str} (e : ps = l1 ++ t :: l2) : Sep l1 t.1 t.2 := by
  apply Classical.byContradiction
  intro no
  have all : ∀ P : Str → Prop, (∀ t ∈ l1, P t.1 ↔ P t.2) → P t.1 → P t.2 := fun P hc h1 => Classical.byContradiction fun h2 => no ⟨P, h1, h2, hc⟩
  have c2 : Conn zs (l1 ++ l2) := by
    intro P z0 hz p0 each z hz'
    have c1 : ∀ t ∈ l1, P t.1 ↔ P t.2 := fun u hu => each u (List.mem_append.mpr (.inl hu))
    refine g.c P z0 hz p0 (fun v hv => ?_) z hz'
    rw [e] at hv
    rcases List.mem_append.mp hv with q | q
    · exact c1 v q
    · rcases List.mem_cons.mp q with q | q
      · subst q
        refine ⟨all P c1, fun h2 => Classical.byContradiction fun h1 => ?_⟩
        exact all (fun x => ¬ P x) (fun u hu => by rw [c1 u hu]) h1 h2
      · exact each v (List.mem_append.mpr (.inr q))
  have r := conn_len _ zs _ rfl g.nd c2
  have hl := g.lp
  rw [e] at hl
  simp only [List.length_append, List.length_cons] at r hl
  omega
theorem Sep.far {zs : List Str} {ps : List (Str × Str)} {a b : Str} (s : Sep ps a b) {N : Str → List Str} {ks : List Str} {nx : Str → Str} (pn : ∀ z ∈ zs, (N z).Perm (rawN ps z)) (led : Led zs N a ks nx) : b ∉ ks := by
  obtain ⟨P, pa, pb, hc⟩ := s
  have all : ∀ (n i : Nat) (y : Str), i ≤ n → ks[i]? = some y → P y := by
    intro n
    induction n with
    | zero =>
      intro i y hi hy
      by_cases e : y = a
      · rw [e]; exact pa
      · have := (led.o i y hy e).1
        rw [show i = 0 by omega] at this
        cases this
    | succ n ih =>
      intro i y hi hy
      by_cases e : y = a
      · rw [e]; exact pa
      · obtain ⟨o1, o2⟩ := led.o i y hy e
        obtain ⟨j, hj⟩ := List.getElem?_of_mem o1
        have jl : j < i := by have := (List.getElem?_eq_some_iff.mp hj).1; rw [List.length_take] at this; omega
        rw [List.getElem?_take_of_lt jl] at hj
        have pj := ih j (nx y) (by omega) hj
        have hz : nx y ∈ zs := led.z _ (List.mem_of_getElem? hj)
        have hr := (pn _ hz).mem_iff.mp o2
        unfold rawN at hr
        obtain ⟨t, ht, hy'⟩ := List.mem_flatMap.mp hr
        have ct := hc t ht
        by_cases e1 : t.1 = nx y
        · rw [if_pos e1] at hy'
          rw [List.mem_singleton.mp hy']
          rw [e1] at ct
          exact ct.mp pj
        · rw [if_neg e1] at hy'
          by_cases e2 : t.2 = nx y
          · rw [if_pos e2] at hy'
            rw [List.mem_singleton.mp hy']
            rw [e2] at ct
            exact ct.mpr pj
          · rw [if_neg e2] at hy'; cases hy'
  intro hb
  obtain ⟨i, hi⟩ := List.getElem?_of_mem hb
  exact pb (all i i b (Nat.le_refl _) hi)
theorem norm_lt {u : Str × Str} (h : u.1 ≠ u.2) : ltS (normP u).1 (normP u).2 = true := by
  unfold normP minS maxS
  cases h1 : ltS u.2 u.1 with
  | true =>
    have h2 : ltS u.1 u.2 = false := ltS_asym h1
    simp [h2, h1]
  | false =>
    cases h2 : ltS u.1 u.2 with
    | true => simp [h2]
    | false => exact absurd (ltS_tot h2 h1) h
theorem norm_self {u : Str × Str} (h : ltS u.1 u.2 = true) : normP u = u := by
  unfold normP minS maxS
  rw [ltS_asym h, h]
  simp
structure Up2 (ps : List (Str × Str)) : Prop where
  lo : ∀ p ∈ ps, ltS p.1 p.2 = true
  up : ∀ l1 a b l2, ps = l1 ++ a :: b :: l2 → ltP a b = true
theorem up2_of {zs zs' : List Str} {ps ps' : List (Str × Str)} (g : GT zs ps) (pz : zs'.Perm zs) (pp : ps'.Perm (ps.map normP)) (s : Asc ltP ps') : Up2 ps' := by
  refine ⟨fun p hp => ?_, fun l1 a b l2 e => ?_⟩
  · obtain ⟨u, hu, rfl⟩ := List.mem_map.mp (pp.mem_iff.mp hp)
    exact norm_lt (g.t u hu).2.2
  · cases h : ltP a b with
    | true => rfl
    | false =>
      have h2 : ltP b a = false := by
        rw [e] at s
        have := (List.pairwise_append.mp s).2.1
        exact (List.pairwise_cons.mp this).1 b List.mem_cons_self
      have eq := ltP_tot h h2
      subst eq
      exact absurd (List.mem_cons_self) ((g.norm pz pp).unlike e)
theorem abc_no : (10 : Nat) ∉ abc.cps.toList ∧ (32 : Nat) ∉ abc.cps.toList := by decide +kernel
theorem letter_in {c : Nat} (h : letterB c = true) : c ∈ abc.cps.toList := by
  unfold letterB at h
  rw [StrLaws.found_one] at h
  exact of_decide_eq_true h
theorem good_free {z : Str} (h : GoodN z) : 10 ∉ z.cps.toList ∧ 32 ∉ z.cps.toList := by
  have h1 := h.1
  unfold nameS at h1
  simp only [Bool.and_eq_true] at h1
  have h2 := List.all_eq_true.mp h1.2
  exact ⟨fun m => abc_no.1 (letter_in (h2 _ m)), fun m => abc_no.2 (letter_in (h2 _ m))⟩
theorem mem_jn {c d : Nat} : ∀ {xs : List (List Nat)}, c ∈ jn d xs → c = d ∨ ∃ x ∈ xs, c ∈ x
  | [], h => by cases h
  | [x], h => .inr ⟨x, List.mem_cons_self, h⟩
  | x :: y :: r, h => by
    rcases List.mem_append.mp (show c ∈ x ++ d :: jn d (y :: r) from h) with q | q
    · exact .inr ⟨x, List.mem_cons_self, q⟩
    · rcases List.mem_cons.mp q with q | q
      · exact .inl q
      · rcases mem_jn q with q | ⟨z, hz, q⟩
        · exact .inl q
        · exact .inr ⟨z, List.mem_cons_of_mem _ hz, q⟩
theorem join_free {c d : Nat} {ys : List Str} (n : c ≠ d) (h : ∀ y ∈ ys, c ∉ y.cps.toList) : c ∉ (Str.join ⟨#[d]⟩ ys).cps.toList := by
  rw [cps_join]
  intro m
  rcases mem_jn m with q | ⟨x, hx, q⟩
  · exact n q
  · obtain ⟨y, hy, rfl⟩ := List.mem_map.mp hx
    exact h y hy q
noncomputable def lineH (zs : List Str) : Str := Str.join ⟨#[32]⟩ ("tree" :: zs)
noncomputable def lineT (p : Str × Str) : Str := Str.join ⟨#[32]⟩ ["tie", p.1, p.2]
noncomputable def textT (zs : List Str) (ps : List (Str × Str)) : Str := Str.join ⟨#[10]⟩ (lineH zs :: ps.map lineT)
theorem word_no : (∀ c ∈ [10, 32], c ∉ ("tree" : Str).cps.toList) ∧ (∀ c ∈ [10, 32], c ∉ ("tie" : Str).cps.toList) := by decide +kernel
theorem sp_eq : (" " : Str) = ⟨#[32]⟩ := by decide +kernel
theorem nl_eq : ("\n" : Str) = ⟨#[10]⟩ := by decide +kernel
theorem split_H {zs : List Str} (g : ∀ z ∈ zs, GoodN z) : Txt.split (lineH zs) ⟨#[32]⟩ = ("tree" : Str) :: zs := by
  unfold lineH
  refine split_join (List.cons_ne_nil _ _) fun y hy => ?_
  rcases List.mem_cons.mp hy with rfl | hy
  · exact word_no.1 32 (by simp)
  · exact (good_free (g y hy)).2
theorem split_T {p : Str × Str} (g1 : GoodN p.1) (g2 : GoodN p.2) : Txt.split (lineT p) ⟨#[32]⟩ = [("tie" : Str), p.1, p.2] := by
  unfold lineT
  refine split_join (List.cons_ne_nil _ _) fun y hy => ?_
  rcases List.mem_cons.mp hy with rfl | hy
  · exact word_no.2 32 (by simp)
  · rcases List.mem_cons.mp hy with rfl | hy
    · exact (good_free g1).2
    · rw [List.mem_singleton.mp hy]; exact (good_free g2).2
theorem split_X {zs : List Str} {ps : List (Str × Str)} (g : ∀ z ∈ zs, GoodN z) (gp : ∀ p ∈ ps, GoodN p.1 ∧ GoodN p.2) : Txt.split (textT zs ps) ⟨#[10]⟩ = lineH zs :: ps.map lineT := by
  unfold textT
  refine split_join (List.cons_ne_nil _ _) fun y hy => ?_
  rcases List.mem_cons.mp hy with rfl | hy
  · refine join_free (by decide) fun z hz => ?_
    rcases List.mem_cons.mp hz with rfl | hz
    · exact word_no.1 10 (by simp)
    · exact (good_free (g z hz)).1
  · obtain ⟨p, hp, rfl⟩ := List.mem_map.mp hy
    refine join_free (by decide) fun z hz => ?_
    rcases List.mem_cons.mp hz with rfl | hz
    · exact word_no.2 10 (by simp)
    · rcases List.mem_cons.mp hz with rfl | hz
      · exact (good_free (gp p hp).1).1
      · rw [List.mem_singleton.mp hz]; exact (good_free (gp p hp).2).1
theorem len_H {zs : List Str} (g : ∀ z ∈ zs, GoodN z) (l : zs.length ≤ 12) : (lineH zs).length ≤ 200 := by
  have a := sj_len 32 ("tree" :: zs)
  have b := StrLaws.sumLen_le (B := 8) ("tree" :: zs) (fun y hy => by
    rcases List.mem_cons.mp hy with rfl | hy
    · decide +kernel
    · exact (g y hy).2)
  rw [List.length_cons] at a b
  unfold lineH
  omega
theorem len_T {p : Str × Str} (g1 : GoodN p.1) (g2 : GoodN p.2) : (lineT p).length ≤ 30 := by
  have a := sj_len 32 ["tie", p.1, p.2]
  have b := StrLaws.sumLen_le (B := 8) ["tie", p.1, p.2] (fun y hy => by
    rcases List.mem_cons.mp hy with rfl | hy
    · decide +kernel
    · rcases List.mem_cons.mp hy with rfl | hy
      · exact g1.2
      · rw [List.mem_singleton.mp hy]; exact g2.2)
  simp only [List.length_cons, List.length_nil] at a b
  unfold lineT
  omega
theorem sum_X {zs : List Str} {ps : List (Str × Str)} (g : ∀ z ∈ zs, GoodN z) (gp : ∀ p ∈ ps, GoodN p.1 ∧ GoodN p.2) (l : zs.length ≤ 12) (lp : ps.length ≤ 12) : ((lineH zs :: ps.map lineT).map (·.length)).sum + (lineH zs :: ps.map lineT).length ≤ 3000 := by
  have b := StrLaws.sumLen_le (B := 200) (lineH zs :: ps.map lineT) (fun y hy => by
    rcases List.mem_cons.mp hy with rfl | hy
    · exact len_H g l
    · obtain ⟨p, hp, rfl⟩ := List.mem_map.mp hy
      exact Nat.le_trans (len_T (gp p hp).1 (gp p hp).2) (by decide))
  rw [List.length_cons, List.length_map] at b
  rw [List.length_cons, List.length_map]
  omega
theorem len_X {zs : List Str} {ps : List (Str × Str)} (g : ∀ z ∈ zs, GoodN z) (gp : ∀ p ∈ ps, GoodN p.1 ∧ GoodN p.2) (l : zs.length ≤ 12) (lp : ps.length ≤ 12) : (textT zs ps).length ≤ 3000 := by
  unfold textT
  exact Nat.le_trans (sj_len 10 _) (sum_X g gp l lp)
theorem GT.gp {zs : List Str} {ps : List (Str × Str)} (g : GT zs ps) : ∀ p ∈ ps, GoodN p.1 ∧ GoodN p.2 := fun p hp => ⟨g.g _ (g.t p hp).1, g.g _ (g.t p hp).2.1⟩
theorem tie_eq : ("tie " : Str) = "tie" ++ ⟨#[32]⟩ := by decide +kernel
theorem line_eq (p : Str × Str) : lineT p = ("tie " : Str) ++ p.1 ++ " " ++ p.2 := by
  unfold lineT
  rw [tie_eq, sp_eq]
  refine str_ext ?_
  rw [cps_join]
  simp only [cps_app, List.map_cons, List.map_nil, jn]
  simp
theorem line_eq2 (p : Str × Str) : lineT p = Str.empty ++ ("tie " : Str) ++ p.1 ++ " " ++ p.2 := by
  rw [line_eq]
  refine str_ext ?_
  simp only [cps_app]
  rfl
end K81
set_option Elab.async false
set_option linter.all false
set_option maxRecDepth 100000
set_option maxHeartbeats 4000000
namespace K81
open PySem L2
noncomputable abbrev sCkT : Stmt := top 21
noncomputable abbrev sRis : Stmt := top 25
noncomputable abbrev sClo : Stmt := top 26
noncomputable abbrev sRdH : Stmt := top 23
noncomputable abbrev sRdT : Stmt := top 24
section
variable {P : Program} {w : World} {K : PySem.W.Frag} {mg : Str → Option Value} {base : Heap} {C : Addr}
theorem scCkT : FnScope ["thing"] ["thing"] (defScope sCkT) := ⟨rfl, rfl, rfl, by decide +kernel, rfl, by decide +kernel, by decide +kernel⟩
theorem scRis : FnScope ["tie", "ties"] ["tie", "ties"] (defScope sRis) := ⟨rfl, rfl, rfl, by decide +kernel, rfl, by decide +kernel, by decide +kernel⟩
theorem scClo : FnScope ["tie", "houses", "ties"] ["tie", "houses", "ties"] (defScope sClo) := ⟨rfl, rfl, rfl, by decide +kernel, rfl, by decide +kernel, by decide +kernel⟩
theorem scRdH : FnScope ["line", "word", "houses"] ["line"] (defScope sRdH) := ⟨rfl, rfl, rfl, by decide +kernel, rfl, by decide +kernel, by decide +kernel⟩
theorem scRdT : FnScope ["line", "number", "houses", "ties", "word", "names", "tie"] ["line", "number", "houses", "ties"] (defScope sRdT) := ⟨rfl, rfl, rfl, by decide +kernel, rfl, by decide +kernel, by decide +kernel⟩
noncomputable def spCkT : Sp := fun vs H Q _ => ∃ z : Str, vs = [.str z] ∧ Q .non H
theorem okCkT (G : FunG K mg "check_text" sCkT ["thing"]) (b_isinstance : Blt mg "isinstance") (b_str : Blt mg "str") : Cal P w K mg base CX0 1 "check_text" ["thing"] spCkT := by
  refine G.ok scCkT (fun vs H Q E h => by obtain ⟨z, rfl, _⟩ := h; rfl) (fun f cdv A outer s0 H vs Q E hr h => ?_)
  obtain ⟨z, rfl, q⟩ := h
  refine ⟨_, (pss_one (ps_if (pt_not (pt_val (pe_blt call_isinst b_isinstance bo_isinstance (pa_cons (pv 0) (pa_cons (pe_ty b_str bo_str) pa_nil))))) (pss_one ps_never) pss_nil)), ?_⟩
  exact ⟨_, rfl, _, _, _, true, rfl, .str z, by simp [PySem.W.kitOne], _, rfl, ifF rfl q⟩
noncomputable def spRis : Sp := fun vs H Q _ => ∃ (t l : Addr) (p : Str × Str) (ps : List (Str × Str)), vs = [.ref t, .ref l] ∧ H t = some (.tup (pairV p)) ∧ Rows H l (ps.map pairV) ∧ ltS p.1 p.2 = true ∧ (∀ qs a, ps = qs ++ [a] → ltP a p = true) ∧ Q (.bl true) H
theorem okRis (G : FunG K mg "rises" sRis ["tie", "ties"]) (b_len : Blt mg "len") : Cal P w K mg base CX0 1 "rises" ["tie", "ties"] spRis := by
  refine G.ok scRis (fun vs H Q E h => by obtain ⟨t, l, p, ps, rfl, _⟩ := h; rfl) (fun f cdv A outer s0 H vs Q E hr h => ?_)
  obtain ⟨t, l, p, ps, rfl, ht, ⟨qs, hl, hq⟩, lo, up, q⟩ := h
  have hu0 := Nat.lt_of_succ_lt (hu_of hr)
  refine ⟨_, (pss_one (ps_ret (pe_and (pe_cmpR op_lt_str (pe_ix ix_tupH (pv 0) pe_int (fun _ _ => rfl)) (pe_ix ix_tupH (pv 0) pe_int (fun _ _ => rfl)) (nomark _)) (pe_one (pe_or (pe_cmpR op_eq (pe_blt call_len b_len bo_len (pa_cons (pv 1) pa_nil)) pe_int (nomark _)) (pe_one (pe_cmpR (op_ltP hu0) (pe_ix ix_lstH (pv 1) (pe_un un_neg pe_int) (fun _ _ => rfl)) (pv 0) (nomark _)))))))), ?_⟩
  refine ⟨_, rfl, t, _, 0, _, rfl, rfl, ht, rfl, _, rfl, t, _, 1, _, rfl, rfl, ht, rfl, _, _, rfl, rfl, _, rfl, ?_⟩
  refine ifT lo ?_
  have lq := paired_len hq
  rw [List.length_map] at lq
  refine ⟨_, rfl, _, _, rfl, .inl ⟨_, .of hl, rfl⟩, rfl, _, rfl, ?_⟩
  rcases List.eq_nil_or_concat ps with e | ⟨ps0, pl, e⟩
  · have e0 : qs = [] := List.length_eq_zero_iff.mp (by rw [lq, e]; rfl)
    subst e0
    exact ifT rfl q
  · subst e
    have lq1 : qs.length = ps0.length + 1 := by rw [lq]; simp
    obtain ⟨qs0, qa, e0⟩ : ∃ qs0 qa, qs = qs0 ++ [qa] := by
      rcases List.eq_nil_or_concat qs with z | ⟨a, b, z⟩
      · rw [z] at lq1; simp at lq1
      · exact ⟨a, b, by rw [z]; simp⟩
    subst e0
    refine ifF (by rw [List.length_map]; simp; omega) ?_
    have hqa : H qa = some (.tup (pairV pl)) := by
      obtain ⟨r, er, hu⟩ := paired_get hq qs0.length qa (by simp)
      have l0 : qs0.length = ps0.length := by simpa using lq1
      rw [l0] at er
      simp at er
      rw [← er] at hu
      exact hu
    refine ⟨_, rfl, 1, rfl, l, _, -1, .ref qa, rfl, rfl, hl, by rw [List.map_append]; exact atI_last _ _, _, rfl, qa, t, pl, p, rfl, rfl, hqa, ht, ?_⟩
    rw [up ps0 pl (by simp)]
    exact q
noncomputable def spClo : Sp := fun vs H Q _ => ∃ (t nl l : Addr) (p : Str × Str) (zs : List Str) (ps : List (Str × Str)), vs = [.ref t, .ref nl, .ref l] ∧ H t = some (.tup (pairV p)) ∧ H nl = some (.lst (zs.map V.str)) ∧ Rows H l (ps.map pairV) ∧ zs.Nodup ∧ (∀ q ∈ ps, TieOk zs q) ∧ ps.length < 60 ∧ zs.length < 60 ∧ p.1 ∈ zs ∧ Sep ps p.1 p.2 ∧ ∀ H', Keep [] H H' → Q (.bl false) H'
theorem okClo (G : FunG K mg "closes_ring" sClo ["tie", "houses", "ties"]) (CTE : Cal P w K mg base CX0 1 "tied_to_each" ["houses", "ties"] spTied) (CST : Cal P w K mg base CX0 1 "steps_toward" ["near", "goal"] spSteps) : Cal P w K mg base CX0 2 "closes_ring" ["tie", "houses", "ties"] spClo := by
  refine G.ok scClo (fun vs H Q E h => by obtain ⟨t, nl, l, p, zs, ps, rfl, _⟩ := h; rfl) (fun f cdv A outer s0 H vs Q E hr h => ?_)
  obtain ⟨t, nl, l, p, zs, ps, rfl, ht, hnl, hl, nd, tz, lp, lz, pz, sep, q⟩ := h
  have hr1 : Room 1 _ := hr
  have hu := hu_of hr
  refine ⟨_, (pss_one (ps_ret (pe_cmp (pc_din hu (pe_ix ix_tupH (pv 0) pe_int (fun _ _ => rfl)) (pe_cal CST hr1 (pa_cons (pe_cal CTE hr1 (pa_cons (pv 1) (pa_cons (pv 2) pa_nil))) (pa_cons (pe_ix ix_tupH (pv 0) pe_int (fun _ _ => rfl)) pa_nil))))))), ?_⟩
  refine ⟨_, rfl, t, _, 1, _, rfl, rfl, ht, rfl, _, rfl, _, rfl, nl, l, ps, zs, rfl, hnl, hl, nd, tz, lp, lz, fun ndr L N H1 hnd hL na k1 => ?_⟩
  refine ⟨_, rfl, t, _, 0, _, rfl, rfl, k1 _ _ (by simp) ht, rfl, ndr, zs, ps, L, N, p.1, rfl, na, lz, pz, (fun z hz y hy => raw_in tz ((na.p z hz).mem_iff.mp hy)), fun sd ks nx H2 hsd led cl h2 k2 => ?_⟩
  refine ⟨sd, _, rfl, DGet.k (k := Sum.inr p.2) h2, ?_⟩
  rw [val_dz_no (sep.far na.p led)]
  exact q H2 (k1.trans k2)
noncomputable def spRdH : Sp := fun vs H Q _ => ∃ zs : List Str, vs = [.str (lineH zs)] ∧ (∀ z ∈ zs, GoodN z) ∧ zs.Nodup ∧ 1 ≤ zs.length ∧ zs.length ≤ 12 ∧ Asc ltS zs ∧ ∀ (l : Addr) (H' : Hp), H l = none → H' l = some (.lst (zs.map V.str)) → Keep [] H H' → Q (.ref l) H'
theorem okRdH (G : FunG K mg "read_houses" sRdH ["line"]) (CAH : Cal P w K mg base CX0 3 "are_houses" ["thing"] spAreH) (b_sorted : Blt mg "sorted") : Cal P w K mg base CX0 4 "read_houses" ["line"] spRdH := by
  refine G.ok scRdH (fun vs H Q E h => by obtain ⟨zs, rfl, _⟩ := h; rfl) (fun f cdv A outer s0 H vs Q E hr h => ?_)
  obtain ⟨zs, rfl, gz, nd, l1, l2, sz, q⟩ := h
  have hr3 : Room 3 _ := hr
  have hu4' := hu4 hr
  refine ⟨_, (pss_cons (ps_asg (pe_bm PySem.F.plainAttrs_str PySem.F.slot_str_split PySem.F.type_str_split mt_split (pv 0) (pa_cons pe_str pa_nil)) (pg_star (n := 2) (i := 1) rfl (pgs_cons (pg_name (i := 1) scRdH.nd rfl (Or.inl rfl)) (pgs_star (pg_name (i := 2) scRdH.nd rfl (Or.inl rfl)) pgs_nil))))
      (pss_cons (ps_if (PW.pt (pw_or (pt_cmpR op_ne (pv 1) pe_str (nomark _)) (pw_or (pt_not (pt_val (pe_cal CAH hr3 (pa_cons (pv 2) pa_nil)))) (pw_or1 (pt_cmpR (op_neL hu4') (pv 2) (pe_blt call_sortedS b_sorted bo_sorted (pa_cons (pv 2) pa_nil)) (nomark _)))))) (pss_one ps_never) pss_nil)
      (pss_one (ps_ret (pv 2))))), ?_⟩
  refine ⟨_, rfl, rfl, _, 32, rfl, by rw [sp_eq], Nat.le_trans (len_H gz l2) (by decide), fun sl hsl => ?_⟩
  rw [split_H gz, List.map_cons]
  have k1 : Keep [] H (upd H sl (.lst (V.str "tree" :: zs.map V.str))) := Keep.new hsl
  have e1 : upd H sl (.lst (V.str "tree" :: zs.map V.str)) sl = some (.lst (V.str "tree" :: zs.map V.str)) := upd_same
  generalize upd H sl (.lst (V.str "tree" :: zs.map V.str)) = H1 at k1 e1
  refine ⟨sl, _, rfl, .of e1, by simp, by rw [List.length_cons, List.length_map]; omega, fun D hD => ?_⟩
  rw [(star_two _ _ D).1, (star_two _ _ D).2]
  have k2 : Keep [] H1 (upd H1 D (.lst (zs.map V.str))) := Keep.new hD
  have e2 : upd H1 D (.lst (zs.map V.str)) D = some (.lst (zs.map V.str)) := upd_same
  generalize upd H1 D (.lst (zs.map V.str)) = H2 at k2 e2
  refine ⟨_, _, rfl, _, _, rfl, rfl, ?_⟩
  refine ⟨_, rfl, rfl, _, rfl, ifF (by simp) ?_⟩
  refine ⟨_, rfl, D, zs, rfl, e2, gz, nd, l1, by omega, fun H3 k3 => ⟨_, rfl, ifF rfl ?_⟩⟩
  have e3 := k3 _ _ (by simp) e2
  refine ⟨_, rfl, _, rfl, D, zs, rfl, e3, by omega, fun l3 ys hl3 py sy => ?_⟩
  have ey : ys = zs := asc_uniq (fun a b => ltS_tot) py sy sz
  subst ey
  have k4 : Keep [] H3 (upd H3 l3 (.lst (ys.map V.str))) := Keep.new hl3
  refine ⟨D, l3, _, _, rfl, rfl, k4 _ _ (by simp) e3, upd_same, rfl, like_texts ys, _, rfl, ifF rfl ?_⟩
  refine ⟨_, rfl, q D _ (k1.none (by simp) hD) (k4 _ _ (by simp) e3) (k1.trans (k2.trans (k3.trans k4)))⟩
noncomputable def spRdT : Sp := fun vs H Q _ => ∃ (p : Str × Str) (n : Int) (nl l : Addr) (zs : List Str) (ps : List (Str × Str)), vs = [.str (lineT p), .int n, .ref nl, .ref l] ∧ H nl = some (.lst (zs.map V.str)) ∧ Rows H l (ps.map pairV) ∧ (∀ z ∈ zs, GoodN z) ∧ zs.Nodup ∧ (∀ q ∈ ps, TieOk zs q) ∧ TieOk zs p ∧ ps.length < 60 ∧ zs.length < 60 ∧ ltS p.1 p.2 = true ∧ (∀ qs a, ps = qs ++ [a] → ltP a p = true) ∧ Sep ps p.1 p.2 ∧
  ∀ (t : Addr) (H' : Hp), H t = none → H' t = some (.tup (pairV p)) → Keep [] H H' → Q (.ref t) H'
theorem okRdT (G : FunG K mg "read_tie" sRdT ["line", "number", "houses", "ties"]) (CIT : Cal P w K mg base CX0 3 "is_tie" ["thing", "houses"] spTie) (CR : Cal P w K mg base CX0 1 "rises" ["tie", "ties"] spRis) (CC : Cal P w K mg base CX0 2 "closes_ring" ["tie", "houses", "ties"] spClo) (b_tuple : Blt mg "tuple") : Cal P w K mg base CX0 4 "read_tie" ["line", "number", "houses", "ties"] spRdT := by
  refine G.ok scRdT (fun vs H Q E h => by obtain ⟨p, n, nl, l, zs, ps, rfl, _⟩ := h; rfl) (fun f cdv A outer s0 H vs Q E hr h => ?_)
  obtain ⟨p, n, nl, l, zs, ps, rfl, hnl, hl, gz, nd, tz, tp, lp, lz, lo, up, sep, q⟩ := h
  have hr3 : Room 3 _ := hr
  have hr2 : Room 2 _ := hr.mono (by decide)
  have hr1 : Room 1 _ := hr.mono (by decide)
  have g1 := gz _ tp.1
  have g2 := gz _ tp.2.1
  refine ⟨_, (pss_cons (ps_asg (pe_bm PySem.F.plainAttrs_str PySem.F.slot_str_split PySem.F.type_str_split mt_split (pv 0) (pa_cons pe_str pa_nil)) (pg_star (n := 2) (i := 1) rfl (pgs_cons (pg_name (i := 4) scRdT.nd rfl (Or.inl rfl)) (pgs_star (pg_name (i := 5) scRdT.nd rfl (Or.inl rfl)) pgs_nil))))
      (pss_cons (ps_set (i := 6) scRdT.nd rfl (Or.inl rfl) (pe_callTy call_tuple_of rfl b_tuple.no bo_tuple (pa_cons (pv 5) pa_nil)))
      (pss_cons (ps_if (PW.pt (pw_or (pt_cmpR op_ne (pv 4) pe_str (nomark _)) (pw_or (pt_not (pt_val (pe_cal CIT hr3 (pa_cons (pv 6) (pa_cons (pv 2) pa_nil))))) (pw_or (pt_not (pt_val (pe_cal CR hr1 (pa_cons (pv 6) (pa_cons (pv 3) pa_nil))))) (pw_or1 (pt_val (pe_cal CC hr2 (pa_cons (pv 6) (pa_cons (pv 2) (pa_cons (pv 3) pa_nil)))))))))) (pss_one ps_never) pss_nil)
      (pss_one (ps_ret (pv 6)))))), ?_⟩
  refine ⟨_, rfl, rfl, _, 32, rfl, by rw [sp_eq], Nat.le_trans (len_T g1 g2) (by decide), fun sl hsl => ?_⟩
  rw [split_T g1 g2, List.map_cons]
  have k1 : Keep [] H (upd H sl (.lst (V.str "tie" :: [p.1, p.2].map V.str))) := Keep.new hsl
  have e1 : upd H sl (.lst (V.str "tie" :: [p.1, p.2].map V.str)) sl = some (.lst (V.str "tie" :: [p.1, p.2].map V.str)) := upd_same
  generalize upd H sl (.lst (V.str "tie" :: [p.1, p.2].map V.str)) = H1 at k1 e1
  refine ⟨sl, _, rfl, .of e1, by simp, by simp, fun D hD => ?_⟩
  rw [(star_two _ _ D).1, (star_two _ _ D).2]
  have k2 : Keep [] H1 (upd H1 D (.lst ([p.1, p.2].map V.str))) := Keep.new hD
  have e2 : upd H1 D (.lst ([p.1, p.2].map V.str)) D = some (.lst ([p.1, p.2].map V.str)) := upd_same
  generalize upd H1 D (.lst ([p.1, p.2].map V.str)) = H2 at k2 e2
  refine ⟨_, _, rfl, _, _, rfl, rfl, ?_⟩
  refine ⟨_, rfl, D, _, rfl, .inl ⟨.of e2, fun t ht => ?_⟩⟩
  have k3 : Keep [] H2 (upd H2 t (.tup (pairV p))) := Keep.new ht
  have e3 : upd H2 t (.tup (pairV p)) t = some (.tup (pairV p)) := upd_same
  have k03 := k1.trans (k2.trans k3)
  have fin := q t
  refine ⟨_, rfl, rfl, _, rfl, ifF (by simp) ?_⟩
  refine ⟨_, rfl, _, rfl, t, nl, p, zs, rfl, e3, k03 _ _ (by simp) hnl, g1, g2, tp.1, tp.2.1, tp.2.2, fun H4 k4 => ⟨_, rfl, ifF rfl ?_⟩⟩
  have k04 := k03.trans k4
  have e4 := k4 _ _ (by simp) e3
  refine ⟨_, rfl, _, rfl, t, l, p, ps, rfl, e4, hl.keep k04, lo, up, _, rfl, ifF rfl ?_⟩
  refine ⟨_, rfl, _, rfl, _, rfl, t, nl, l, p, zs, ps, rfl, e4, k04 _ _ (by simp) hnl, hl.keep k04, nd, tz, lp, lz, tp.1, sep, fun H5 k5 => ⟨_, rfl, ifF rfl ?_⟩⟩
  exact ⟨_, rfl, fin H5 ((k1.trans k2).none (by simp) ht) (k5 _ _ (by simp) e4) (k04.trans k5)⟩
end
end K81
set_option Elab.async false
set_option linter.all false
set_option maxRecDepth 100000
set_option maxHeartbeats 4000000
namespace K81
open PySem L2
noncomputable abbrev sRdX : Stmt := top 22
noncomputable abbrev sShw : Stmt := top 20
noncomputable abbrev sTxt : Stmt := top 36
theorem tfl_hs (nl pl nd : Addr) : (tfl nl pl nd).lookup ("houses" : Str) = none := rfl
theorem tfl_ts (nl pl nd : Addr) : (tfl nl pl nd).lookup ("ties" : Str) = none := rfl
section
variable {P : Program} {w : World} {K : PySem.W.Frag} {mg : Str → Option Value} {base : Heap} {C : Addr}
theorem scRdX : FnScope ["text", "first", "others", "houses", "ties", "number", "line"] ["text"] (defScope sRdX) := ⟨rfl, rfl, rfl, by decide +kernel, rfl, by decide +kernel, by decide +kernel⟩
theorem made {C x dx : Addr} {H : Hp} {Q : VK} {E : XK} (a b : Addr) (zs : List Str) (ps : List (Str × Str)) (qs : List Addr) (hx : H x = none) (hdx : H dx = none) (ne : dx ≠ x) (ha : H a = some (.lst (zs.map V.str))) (hb : H b = some (.lst (qs.map V.ref))) (hq : Paired (fun q r => H q = some (.tup r)) qs (ps.map pairV))
    (g : ∀ z ∈ zs, GoodN z) (nd : zs.Nodup) (l1 : 1 ≤ zs.length) (l2 : zs.length < 60) (lp : ps.length + 1 = zs.length) (tz : ∀ p ∈ ps, TieOk zs p) (cn : Conn zs ps)
    (q : ∀ (B : Hp) (zs' : List Str) (ps' : List (Str × Str)) (H' : Hp), zs'.Perm zs → Asc ltS zs' → ps'.Perm (ps.map normP) → Asc ltP ps' → TreeAt B C H' x zs' ps' → (∀ u o, H u = some o → B u ≠ none ∧ u ≠ x) → Keep [] H H' → Q .non H') :
    spInit C [.ref x, .ref a, .ref b] (upd (upd H dx (.own x)) x (.ins C dx [])) Q E := by
  have kB : Keep [] H (upd (upd H dx (.own x)) x (.ins C dx [])) := (Keep.new hdx).trans (Keep.new (by rw [upd_ne ne.symm]; exact hx))
  refine ⟨x, dx, a, b, zs, ps, rfl, upd_same, kB _ _ (by simp) ha, ⟨qs, kB _ _ (by simp) hb, paired_far kB (fun u hu => by cases hu) hq⟩, g, nd, l1, l2, lp, tz, cn, fun zs' ps' H' pz sz pp sp tr kC => ?_⟩
  exact q _ zs' ps' H' pz sz pp sp tr (fun u o hu => ⟨by rw [kB _ _ (by simp) hu]; simp, fun e => by rw [e, hx] at hu; cases hu⟩) (kB.under kC fun u hu => by rw [List.mem_singleton.mp hu]; exact hx)
noncomputable def spRdX (C : Addr) : Sp := fun vs H Q _ => ∃ (zs : List Str) (ps : List (Str × Str)), vs = [.str (textT zs ps)] ∧ GT zs ps ∧ Asc ltS zs ∧ Asc ltP ps ∧ Up2 ps ∧ ∀ (x : Addr) (H' : Hp), H x = none → TreeAt H C H' x zs ps → Keep [] H H' → Q (.ref x) H'
theorem okRdX (G : FunG K mg "read_tree" sRdX ["text"]) (CCT : Cal P w K mg base CX0 1 "check_text" ["thing"] spCkT) (CRH : Cal P w K mg base CX0 4 "read_houses" ["line"] spRdH) (CRT : Cal P w K mg base CX0 4 "read_tie" ["line", "number", "houses", "ties"] spRdT) (MK : MkCal P w K mg base CX0 5 C "Tree" ["self", "houses", "ties"] (spInit C)) (b_len : Blt mg "len") (b_enumerate : Blt mg "enumerate") : Cal P w K mg base CX0 7 "read_tree" ["text"] (spRdX C) := by
  refine G.ok scRdX (fun vs H Q E h => by obtain ⟨zs, ps, rfl, _⟩ := h; rfl) (fun f cdv A outer s0 H vs Q E hr h => ?_)
  obtain ⟨zs, ps, rfl, gt, sz, sp, up2, q⟩ := h
  have hr6 : Room 6 _ := hr
  have hr4 : Room 4 _ := hr.mono (by decide)
  have hr1 : Room 1 _ := hr.mono (by decide)
  have l12 := gt.l2
  have lps := gt.lp
  refine ⟨_, (pss_cons (ps_expr (pe_cal CCT hr1 (pa_cons (pv 0) pa_nil)))
      (pss_cons (ps_asg (pe_bm PySem.F.plainAttrs_str PySem.F.slot_str_split PySem.F.type_str_split mt_split (pv 0) (pa_cons pe_str pa_nil)) (pg_star (n := 2) (i := 1) rfl (pgs_cons (pg_name (i := 1) scRdX.nd rfl (Or.inl rfl)) (pgs_star (pg_name (i := 2) scRdX.nd rfl (Or.inl rfl)) pgs_nil))))
      (pss_cons (ps_set (i := 3) scRdX.nd rfl (Or.inl rfl) (pe_cal CRH hr4 (pa_cons (pv 1) pa_nil)))
      (pss_cons (ps_set (i := 4) scRdX.nd rfl (Or.inl rfl) (pe_lst pa_nil))
      (pss_cons (ps_for PassesOwn.never rfl (pi_enum (by decide) rfl b_enumerate.no (pv 2)) (pg_tup rfl (pgs_cons (pg_name (i := 5) scRdX.nd rfl (Or.inl rfl)) (pgs_cons (pg_name (i := 6) scRdX.nd rfl (Or.inl rfl)) pgs_nil))) (pss_one (ps_expr (pe_bm PySem.F.plainAttrs_list PySem.F.slot_list_append PySem.F.type_list_append mt_append (pv 4) (pa_cons (pe_cal CRT hr4 (pa_cons (pv 6) (pa_cons (pv 5) (pa_cons (pv 3) (pa_cons (pv 4) pa_nil))))) pa_nil)))))
      (pss_cons (ps_if (pt_cmpR op_ne (pe_blt call_len b_len bo_len (pa_cons (pv 4) pa_nil)) (pe_op op_sub (pe_blt call_len b_len bo_len (pa_cons (pv 3) pa_nil)) pe_int) (nomark _)) (pss_one ps_never) pss_nil)
      (pss_one (ps_ret (pe_mk MK hr6 (pa_cons (pv 3) (pa_cons (pv 4) pa_nil))))))))))), ?_⟩
  refine ⟨_, rfl, _, rfl, ?_⟩
  refine ⟨_, rfl, rfl, _, 10, rfl, by rw [nl_eq], Nat.le_trans (len_X gt.g gt.gp gt.l2 (by omega)) (by decide), fun sl hsl => ?_⟩
  rw [split_X gt.g gt.gp, List.map_cons]
  have k1 : Keep [] H (upd H sl (.lst (V.str (lineH zs) :: (ps.map lineT).map V.str))) := Keep.new hsl
  have e1 : upd H sl (.lst (V.str (lineH zs) :: (ps.map lineT).map V.str)) sl = some (.lst (V.str (lineH zs) :: (ps.map lineT).map V.str)) := upd_same
  generalize upd H sl (.lst (V.str (lineH zs) :: (ps.map lineT).map V.str)) = H1 at k1 e1
  refine ⟨sl, _, rfl, .of e1, by simp, by rw [List.length_cons, List.length_map, List.length_map]; omega, fun D hD => ?_⟩
  rw [(star_two _ _ D).1, (star_two _ _ D).2]
  have k2 : Keep [] H1 (upd H1 D (.lst ((ps.map lineT).map V.str))) := Keep.new hD
  have e2 : upd H1 D (.lst ((ps.map lineT).map V.str)) D = some (.lst ((ps.map lineT).map V.str)) := upd_same
  generalize upd H1 D (.lst ((ps.map lineT).map V.str)) = H2 at k2 e2
  refine ⟨_, _, rfl, _, _, rfl, rfl, ?_⟩
  refine ⟨_, rfl, zs, rfl, gt.g, gt.nd, gt.l1, gt.l2, sz, fun nl H3 hnl enl k3 => ?_⟩
  refine ⟨by show 0 ≤ sizeLine; decide, fun tl htl => ?_⟩
  have k4 : Keep [] H3 (upd H3 tl (.lst [])) := Keep.new htl
  have e4 : upd H3 tl (.lst []) tl = some (.lst []) := upd_same
  generalize upd H3 tl (.lst []) = H4 at k4 e4
  have D4 := (k3.trans k4) _ _ (by simp) e2
  have nl4 := k4 _ _ (by simp) enl
  have Dt : D ≠ tl := ne_of_none (k3 _ _ (by simp) e2) htl
  have nt : nl ≠ tl := ne_of_none enl htl
  refine ⟨_, rfl, D, rfl, ⟨_, .of D4⟩, for_enum (K := K) (a := D) (k := 1) (xs := (ps.map lineT).map V.str) (fun i σ H5 => ∃ (qs : List Addr) (v5 v6 : Option V), σ = [some (.str (textT zs ps)), some (.str (lineH zs)), some (.ref D), some (.ref nl), some (.ref tl), v5, v6] ∧ H5 tl = some (.lst (qs.map V.ref)) ∧ Paired (fun q r => H5 q = some (.tup r)) qs ((ps.take i).map pairV) ∧ Keep [tl] H4 H5) ⟨[], _, _, rfl, e4, .nil, Keep.refl _⟩ (fun i σ H5 _ ⟨_, _, _, _, _, _, k⟩ => .of (k _ _ (by simp [Dt]) D4)) ?_ ?_⟩
  · rintro i y σ H5 TT hi ⟨qs, v5, v6, rfl, h5, hp5, k5⟩ hTT
    rw [List.map_map, List.getElem?_map] at hi
    cases ep : ps[i]? with
    | none => rw [ep] at hi; cases hi
    | some p =>
    rw [ep] at hi
    have ey : V.str (lineT p) = y := Option.some.inj hi
    subst ey
    have il : i < ps.length := (List.getElem?_eq_some_iff.mp ep).1
    have es : ps = ps.take i ++ p :: ps.drop (i + 1) := by
      have a := (List.take_append_drop i ps).symm
      rw [List.drop_eq_getElem_cons il, (List.getElem?_eq_some_iff.mp ep).2] at a
      exact a
    have k6 : Keep [] H5 (upd H5 TT (.tup [.int (1 + (i : Int)), .str (lineT p)])) := Keep.new hTT
    have e6 : upd H5 TT (.tup [.int (1 + (i : Int)), .str (lineT p)]) TT = some (.tup [.int (1 + (i : Int)), .str (lineT p)]) := upd_same
    generalize upd H5 TT (.tup [.int (1 + (i : Int)), .str (lineT p)]) = H6 at k6 e6
    refine ⟨TT, _, rfl, .of e6, rfl, _, _, rfl, _, _, rfl, rfl, ?_⟩
    have h6 := k6 _ _ (by simp) h5
    have hp6 := paired_far k6 (fun u hu => by cases hu) hp5
    have mp : p ∈ ps := List.mem_of_getElem? ep
    have lq := paired_len hp5
    rw [List.length_map, List.length_take] at lq
    refine ⟨_, rfl, Or.inl ⟨rfl, _, .of h6⟩, _, rfl, _, rfl, _, rfl, _, rfl, p, _, nl, tl, zs, ps.take i, rfl, k6 _ _ (by simp) (k5 _ _ (by simp [nt]) nl4), ⟨qs, h6, hp6⟩, gt.g, gt.nd, (fun u hu => gt.t u (List.mem_of_mem_take hu)), gt.t p mp, by rw [List.length_take]; omega, by omega, up2.lo p mp, (fun qs' a e => up2.up qs' a p (ps.drop (i + 1)) (by rw [e] at es; simpa using es)), gt.sep es, fun t H7 ht e7 k7 => ?_⟩
    have h7 := k7 _ _ (by simp) h6
    refine ⟨tl, _, _, rfl, rfl, h7, by rw [List.length_map, sizeLine_eq]; omega, ?_⟩
    have kf : Keep [tl] H7 (upd H7 tl (.lst (qs.map V.ref ++ [.ref t]))) := Keep.at (by simp)
    have tt : t ≠ tl := fun e => by rw [e, h7] at e7; cases e7
    refine ⟨qs ++ [t], _, _, rfl, by rw [upd_same, List.map_append]; rfl, ?_, (k5.trans ((k6.trans k7).mono (by simp))).trans kf⟩
    rw [show ps.take (i + 1) = ps.take i ++ [p] by rw [List.take_add_one, ep]; rfl, List.map_append]
    refine paired_snoc (paired_far kf (fun u hu xs e => by rw [List.mem_singleton.mp hu, h7] at e; cases e) (paired_far k7 (fun u hu => by cases hu) hp6)) ?_
    exact kf _ _ (by simp [tt]) e7
  · rintro σ H5 ⟨qs, v5, v6, rfl, h5, hp5, k5⟩
    rw [List.length_map, List.length_map, List.take_length] at hp5
    have lq := paired_len hp5
    rw [List.length_map] at lq
    have nl5 := k5 _ _ (by simp [nt]) nl4
    refine ⟨_, rfl, _, _, rfl, .inl ⟨_, .of h5, rfl⟩, _, rfl, _, _, rfl, .inl ⟨_, .of nl5, rfl⟩, _, _, rfl, rfl, rfl, _, rfl, ifF (by rw [List.length_map, List.length_map]; simp; omega) ?_⟩
    refine ⟨_, rfl, _, rfl, fun x dx hx hdx ne => ?_⟩
    have k05 : Keep [tl] H H5 := ((k1.trans (k2.trans (k3.trans k4))).mono (by simp)).trans k5
    have btl : H tl = none := (k1.trans (k2.trans k3)).none (by simp) htl
    have k05' : Keep [] H H5 := k05.drop btl
    refine made nl tl zs ps qs hx hdx ne nl5 h5 hp5 gt.g gt.nd gt.l1 (by omega) gt.lp gt.t gt.c fun B zs' ps' H7 pz sz' pp sp' tr far k7 => ⟨rfl, ?_⟩
    have ez : zs' = zs := asc_uniq (fun a b => ltS_tot) pz sz' sz
    have en : ps.map normP = ps := by
      have h : ∀ u ∈ ps, normP u = id u := fun u hu => norm_self (up2.lo u hu)
      rw [List.map_congr_left h, List.map_id]
    rw [en] at pp
    have ep : ps' = ps := asc_uniq (fun a b => ltP_tot) pp sp' sp
    subst ez ep
    refine q x H7 (k05'.none (by simp) hx) (tr.base fun u hu => ?_) (k05'.trans k7)
    cases e : H u with
    | none => rfl
    | some o => exact absurd hu (far u o (k05' _ _ (by simp) e)).1
end
end K81
set_option Elab.async false
set_option linter.all false
set_option maxRecDepth 100000
set_option maxHeartbeats 4000000
namespace K81
open PySem L2
section
variable {P : Program} {w : World} {K : PySem.W.Frag} {mg : Str → Option Value} {base : Heap} {C : Addr}
theorem scTxt : FnScope ["_law_names_here", "_law_ties", "_law_lines", "_law_tie"] ["_law_names_here", "_law_ties"] (defScope sTxt) := ⟨rfl, rfl, rfl, by decide +kernel, rfl, by decide +kernel, by decide +kernel⟩
theorem scShw : FnScope ["tree"] ["tree"] (defScope sShw) := ⟨rfl, rfl, rfl, by decide +kernel, rfl, by decide +kernel, by decide +kernel⟩
noncomputable def spShw (C : Addr) : Sp := fun vs H Q _ => ∃ (x : Addr) (B : Hp) (zs : List Str) (ps : List (Str × Str)), vs = [.ref x] ∧ TreeAt B C H x zs ps ∧ (∀ z ∈ zs, GoodN z) ∧ (∀ p ∈ ps, GoodN p.1 ∧ GoodN p.2) ∧ zs.length ≤ 12 ∧ ps.length ≤ 12 ∧ ∀ H', Keep [] H H' → Q (.str (textT zs ps)) H'
theorem okShw (T : TreeT K C) (G : FunG K mg "show_tree" sShw ["tree"]) (MH : MCal P w K mg base CX0 1 C "houses" ["self"] (spHouses C)) (MT : MCal P w K mg base CX0 1 C "ties" ["self"] (spTies C)) : Cal P w K mg base CX0 2 "show_tree" ["tree"] (spShw C) := by
  refine G.ok scShw (fun vs H Q E h => by obtain ⟨x, B, zs, ps, rfl, _⟩ := h; rfl) (fun f cdv A outer s0 H vs Q E hr h => ?_)
  obtain ⟨x, B, zs, ps, rfl, tr, gz, gp, lz, lp, q⟩ := h
  have hr1 : Room 1 _ := hr
  obtain ⟨dx, nl, pl, nd, L, N, _, hx, _⟩ := id tr
  refine ⟨_, (@pss_one _ _ _ (@ps_ret _ _ _ _ (@pe_joinD _ _ _ _ _ _ _ _ _ _ _ _ _ rfl (@pe_joinC _ _ _ _ _ _ _ _ _ _ _ _ _ _ rfl (pe_mth0 MH T.cl hr1 (pv 0)) rfl) (pe_lc2 (N := ["tree"]) (sc := defScope sShw) (ix := []) (by decide +kernel) (pi_list (pe_mth0 MT T.cl hr1 (pv 0))) (fun _ _ _ _ => pts_nil) (fun _ _ _ _ => (pe_fs (pj_cons pe_str (pj_cons (pe_fmt (pv 0)) (pj_cons pe_str (pj_cons (pe_fmt (pv 1)) pj_nil))))))) rfl rfl))), ?_⟩
  refine ⟨rfl, rfl, by show 1 ≤ sizeLine; decide, fun l1 hl1 => ?_⟩
  have k1 : Keep [] H (upd H l1 (.lst [.str "tree"])) := Keep.new hl1
  have e1 : upd H l1 (.lst [.str "tree"]) l1 = some (.lst [.str "tree"]) := upd_same
  generalize upd H l1 (.lst [.str "tree"]) = H1 at k1 e1
  refine ⟨_, rfl, x, dx, _, rfl, k1 _ _ (by simp) hx, tfl_hs _ _ _, x, B, zs, ps, rfl, tr.on k1, fun l2 hl2 => ?_⟩
  have k2 : Keep [] H1 (upd H1 l2 (.lst (zs.map V.str))) := Keep.new hl2
  have e2 : upd H1 l2 (.lst (zs.map V.str)) l2 = some (.lst (zs.map V.str)) := upd_same
  generalize upd H1 l2 (.lst (zs.map V.str)) = H2 at k2 e2
  refine ⟨l1, l2, _, _, rfl, rfl, k2 _ _ (by simp) e1, e2, by rw [List.length_map, sizeLine_eq]; show 1 + _ ≤ _; omega, fun l3 hl3 => ?_⟩
  rw [show [V.str "tree"] ++ zs.map V.str = (("tree" : Str) :: zs).map V.str from rfl]
  have k3 : Keep [] H2 (upd H2 l3 (.lst ((("tree" : Str) :: zs).map V.str))) := Keep.new hl3
  have e3 : upd H2 l3 (.lst ((("tree" : Str) :: zs).map V.str)) l3 = some (.lst ((("tree" : Str) :: zs).map V.str)) := upd_same
  generalize upd H2 l3 (.lst ((("tree" : Str) :: zs).map V.str)) = H3 at k3 e3
  refine ⟨" ", l3, _, rfl, rfl, .of e3, ?_, ?_⟩
  · have b := StrLaws.sumLen_le (B := 8) (("tree" : Str) :: zs) (fun y hy => by
      rcases List.mem_cons.mp hy with rfl | hy
      · decide +kernel
      · exact (gz y hy).2)
    rw [List.length_cons] at b
    rw [List.length_cons, show (" " : Str).length = 1 from by decide +kernel]
    omega
  have ej : Txt.join (" " : Str) (("tree" : Str) :: zs) = lineH zs := by rw [sp_eq, txt_join]; rfl
  rw [ej]
  refine ⟨by show 1 ≤ sizeLine; decide, fun l4 hl4 => ?_⟩
  have k4 : Keep [] H3 (upd H3 l4 (.lst [.str (lineH zs)])) := Keep.new hl4
  have e4 : upd H3 l4 (.lst [.str (lineH zs)]) l4 = some (.lst [.str (lineH zs)]) := upd_same
  generalize upd H3 l4 (.lst [.str (lineH zs)]) = H4 at k4 e4
  have k04 := k1.trans (k2.trans (k3.trans k4))
  refine ⟨_, rfl, x, dx, _, rfl, k04 _ _ (by simp) hx, tfl_ts _ _ _, x, B, zs, ps, rfl, tr.on k04, fun tl H5 htl ⟨qs, hqs, hqp⟩ k5 => ?_⟩
  have lq := paired_len hqp
  rw [List.length_map] at lq
  refine ⟨tl, rfl, ⟨_, .of hqs⟩, fun acc hacc => ?_⟩
  have ta : tl ≠ acc := ne_of_none hqs hacc
  refine lc_list0 (K := K) (a := tl) (its := qs.map V.ref) (by rw [List.length_map, sizeLine_eq]; omega) (fun i ys τ H6 => ∃ (a b : Option V), τ = [a, b] ∧ ys = ((ps.take i).map lineT).map V.str ∧ Keep [acc] H5 H6 ∧ H6 acc = some (.lst ys)) ?_ ?_ ?_ ?_
  · exact ⟨_, _, rfl, rfl, Keep.at (by simp), upd_same⟩
  · rintro i ys τ H6 ⟨a, b, rfl, rfl, kp, h6⟩
    refine ⟨h6, ?_, .of (kp _ _ (by simp [ta]) hqs)⟩
    rw [List.length_map, List.length_map, List.length_take]; omega
  · rintro i ys τ H6 y hy ⟨a, b, rfl, rfl, kp, h6⟩
    rw [List.getElem?_map] at hy
    cases et : qs[i]? with
    | none => rw [et] at hy; cases hy
    | some u =>
    rw [et] at hy
    have ey : V.ref u = y := Option.some.inj hy
    subst ey
    obtain ⟨r, er, hu⟩ := paired_get hqp i u et
    rw [List.getElem?_map] at er
    cases ep : ps[i]? with
    | none => rw [ep] at er; cases er
    | some p =>
    rw [ep] at er
    have er' := Option.some.inj er
    subst er'
    have ua : u ≠ acc := ne_of_none hu hacc
    have g := gp p (List.mem_of_getElem? ep)
    have g1 : p.1.length ≤ 8 := g.1.2
    have g2 : p.2.length ≤ 8 := g.2.2
    have len : ∀ a b : Str, (a ++ b).length = a.length + b.length := fun a b => by show (a.cps ++ b.cps).size = _; simp [Str.length]
    have l1 : ("tie " : Str).length = 4 := by decide +kernel
    have l2 : (" " : Str).length = 1 := by decide +kernel
    have l0 : Str.empty.length = 0 := rfl
    refine ⟨u, _, rfl, .of (kp _ _ (by simp [ua]) hu), rfl, _, _, rfl, _, _, rfl, rfl, ?_⟩
    refine ⟨_, rfl, by rw [len, l0, l1, sizeLine_eq]; omega, _, rfl, p.1, rfl, by rw [sizeLine_eq]; omega, _, rfl, by simp only [len, l0, l1]; rw [sizeLine_eq]; omega, _, rfl, by simp only [len, l0, l1, l2]; rw [sizeLine_eq]; omega, _, rfl, p.2, rfl, by rw [sizeLine_eq]; omega, _, rfl, by simp only [len, l0, l1, l2]; rw [sizeLine_eq]; omega, by simp only [len, l0, l1, l2]; rw [sizeLine_eq]; omega, ?_⟩
    refine ⟨h6, _, _, rfl, ?_, kp.trans (Keep.at (by simp)), upd_same⟩
    rw [show ps.take (i + 1) = ps.take i ++ [p] by rw [List.take_add_one, ep]; rfl, List.map_append, List.map_append, ← line_eq2]
    rfl
  rintro ys τ H6 ⟨a, b, rfl, rfl, kp, h6⟩
  rw [List.length_map, lq, List.take_length] at h6
  have k6 : Keep [] H5 H6 := kp.drop hacc
  refine ⟨l4, acc, _, _, rfl, rfl, (k5.trans k6) _ _ (by simp) e4, h6, by rw [List.length_map, List.length_map, sizeLine_eq]; show 1 + _ ≤ _; omega, fun l7 hl7 => ?_⟩
  rw [show [V.str (lineH zs)] ++ (ps.map lineT).map V.str = (lineH zs :: ps.map lineT).map V.str from rfl]
  have k7 : Keep [] H6 (upd H6 l7 (.lst ((lineH zs :: ps.map lineT).map V.str))) := Keep.new hl7
  refine ⟨"
", l7, _, rfl, rfl, .of upd_same, ?_, ?_⟩
  · have b := sum_X gz gp lz lp
    rw [show ("
" : Str).length = 1 from by decide +kernel]
    omega
  rw [nl_eq, txt_join]
  exact q _ (k04.trans (k5.trans (k6.trans k7)))
noncomputable def spTxt : Sp := fun vs H Q _ => ∃ (nh th : Addr) (zs : List Str) (ps : List (Str × Str)), vs = [.ref nh, .ref th] ∧ H nh = some (.lst (zs.map V.str)) ∧ Rows H th (ps.map pairV) ∧ GT zs ps ∧
  ∀ (zs' : List Str) (ps' : List (Str × Str)) (H' : Hp), zs'.Perm zs → Asc ltS zs' → ps'.Perm (ps.map normP) → Asc ltP ps' → Keep [] H H' → Q (.str (textT zs' ps')) H'
theorem okTxt (G : FunG K mg "_law_tree_text" sTxt ["_law_names_here", "_law_ties"]) (b_sorted : Blt mg "sorted") (b_min : Blt mg "min") (b_max : Blt mg "max") : Cal P w K mg base CX0 1 "_law_tree_text" ["_law_names_here", "_law_ties"] spTxt := by
  refine G.ok scTxt (fun vs H Q E h => by obtain ⟨nh, th, zs, ps, rfl, _⟩ := h; rfl) (fun f cdv A outer s0 H vs Q E hr h => ?_)
  obtain ⟨nh, th, zs, ps, rfl, hnh, hth, gt, q⟩ := h
  have l12 := gt.l2
  have lps := gt.lp
  refine ⟨_, (pss_cons (ps_set (i := 2) scTxt.nd rfl (Or.inl rfl) (pe_lst (pa_cons (@pe_joinC _ _ _ _ _ _ _ _ _ _ _ _ _ _ rfl (pe_blt call_sortedS b_sorted bo_sorted (pa_cons (pv 0) pa_nil)) rfl) pa_nil)))
      (pss_cons (ps_for PassesOwn.never rfl (pi_list (pe_blt call_sortedP b_sorted bo_sorted (pa_cons (pe_lc1 (N := ["_law_names_here", "_law_ties", "_law_lines", "_law_tie"]) (sc := defScope sTxt) (ix := []) (by decide +kernel) (pi_list (pv 1)) (fun _ _ _ _ => pts_nil) (fun _ _ _ _ => (pe_tup (pa_cons (pe_blt (call_minT rfl) b_min bo_min (pa_cons (pv 0) pa_nil)) (pa_cons (pe_blt (call_maxT rfl) b_max bo_max (pa_cons (pv 0) pa_nil)) pa_nil))))) pa_nil))) (pg_name (i := 3) scTxt.nd rfl (Or.inl rfl)) (pss_one (ps_expr (pe_bm PySem.F.plainAttrs_list PySem.F.slot_list_append PySem.F.type_list_append mt_append (pv 2) (pa_cons (pe_op op_add_str (pe_op op_add_str (pe_op op_add_str pe_str (pe_ix ix_tupH (pv 3) pe_int (fun _ _ => rfl))) pe_str) (pe_ix ix_tupH (pv 3) pe_int (fun _ _ => rfl))) pa_nil)))))
      (pss_one (ps_ret (pe_bm PySem.F.plainAttrs_str PySem.F.slot_str_join PySem.F.type_str_join mt_join pe_str (pa_cons (pv 2) pa_nil)))))), ?_⟩
  refine ⟨rfl, by show 1 ≤ sizeLine; decide, fun l1 hl1 => ?_⟩
  have k1 : Keep [] H (upd H l1 (.lst [.str "tree"])) := Keep.new hl1
  have e1 : upd H l1 (.lst [.str "tree"]) l1 = some (.lst [.str "tree"]) := upd_same
  generalize upd H l1 (.lst [.str "tree"]) = H1 at k1 e1
  refine ⟨_, rfl, nh, zs, rfl, k1 _ _ (by simp) hnh, by omega, fun l2 zs' hl2 pz sz => ?_⟩
  have k2 : Keep [] H1 (upd H1 l2 (.lst (zs'.map V.str))) := Keep.new hl2
  have e2 : upd H1 l2 (.lst (zs'.map V.str)) l2 = some (.lst (zs'.map V.str)) := upd_same
  generalize upd H1 l2 (.lst (zs'.map V.str)) = H2 at k2 e2
  have lz' : zs'.length = zs.length := pz.length_eq
  have gz' : ∀ z ∈ zs', GoodN z := fun z hz => gt.g z (pz.mem_iff.mp hz)
  refine ⟨l1, l2, _, _, rfl, rfl, k2 _ _ (by simp) e1, e2, by rw [List.length_map, sizeLine_eq]; show 1 + _ ≤ _; omega, fun l3 hl3 => ?_⟩
  rw [show [V.str "tree"] ++ zs'.map V.str = (("tree" : Str) :: zs').map V.str from rfl]
  have k3 : Keep [] H2 (upd H2 l3 (.lst ((("tree" : Str) :: zs').map V.str))) := Keep.new hl3
  have e3 : upd H2 l3 (.lst ((("tree" : Str) :: zs').map V.str)) l3 = some (.lst ((("tree" : Str) :: zs').map V.str)) := upd_same
  generalize upd H2 l3 (.lst ((("tree" : Str) :: zs').map V.str)) = H3 at k3 e3
  refine ⟨" ", l3, _, rfl, rfl, .of e3, ?_, ?_⟩
  · have b := StrLaws.sumLen_le (B := 8) (("tree" : Str) :: zs') (fun y hy => by
      rcases List.mem_cons.mp hy with rfl | hy
      · decide +kernel
      · exact (gz' y hy).2)
    rw [List.length_cons] at b
    rw [List.length_cons, show (" " : Str).length = 1 from by decide +kernel]
    omega
  have ej : Txt.join (" " : Str) (("tree" : Str) :: zs') = lineH zs' := by rw [sp_eq, txt_join]; rfl
  rw [ej]
  refine ⟨by show 1 ≤ sizeLine; decide, fun ll hll => ?_⟩
  have k4 : Keep [] H3 (upd H3 ll (.lst [.str (lineH zs')])) := Keep.new hll
  have e4 : upd H3 ll (.lst [.str (lineH zs')]) ll = some (.lst [.str (lineH zs')]) := upd_same
  generalize upd H3 ll (.lst [.str (lineH zs')]) = H4 at k4 e4
  have k04 := k1.trans (k2.trans (k3.trans k4))
  obtain ⟨qs, hq, hqp⟩ := hth.keep k04
  refine ⟨_, rfl, th, rfl, ⟨_, .of hq⟩, fun c1 hc1 => ?_⟩
  refine lc_rows (ds := ps) pairV (fun t => pairV (normP t)) (fun _ => true) (fun _ q => [some (.ref q)]) [] (by omega) hc1 ⟨qs, hq, hqp⟩ ⟨[none], rfl, rfl⟩ (fun _ _ => rfl) ?_ (fun t q H R _ _ _ h => h H (Keep.refl _)) ?_ ?_
  · intro t q vs H R _ hv _ h
    match vs, hv with
    | [v], _ => exact h
  · intro t q H R _ hq h
    refine ⟨_, rfl, q, t.1, t.2, rfl, hq, _, rfl, q, t.1, t.2, rfl, hq, by show 2 ≤ sizeLine; decide, fun t2 ht2 => ?_⟩
    exact h t2 _ (Keep.new ht2) upd_same
  intro H5 hR5 k5
  obtain ⟨ts, hts, htp⟩ := hR5
  rw [List.filter_eq_self.mpr (by simp)] at htp
  refine ⟨c1, ts, ps.map normP, rfl, hts, by rw [List.map_map]; exact htp, by rw [List.length_map]; omega, fun sl qs2 ps' hsl pp sp hpr => ?_⟩
  have k6 : Keep [] H5 (upd H5 sl (.lst (qs2.map V.ref))) := Keep.new hsl
  have e6 : upd H5 sl (.lst (qs2.map V.ref)) sl = some (.lst (qs2.map V.ref)) := upd_same
  have hpr6 := paired_far k6 (fun u hu => by cases hu) hpr
  generalize upd H5 sl (.lst (qs2.map V.ref)) = H6 at k6 e6 hpr6
  have e46 := (k5.trans k6) _ _ (by simp) e4
  have k06 := k04.trans (k5.trans k6)
  have sl_ll : sl ≠ ll := fun e => by
    have := k5 _ _ (by simp) e4
    rw [e, this] at hsl; cases hsl
  have gt' := gt.norm pz pp
  have gp' := gt'.gp
  have lp' : ps'.length + 1 = zs'.length := gt'.lp
  have lq := paired_len hpr6
  rw [List.length_map] at lq
  refine ⟨sl, rfl, ⟨_, .of e6⟩, for_list (K := K) (a := sl) (xs := qs2.map V.ref) (fun i σ H7 => ∃ v3 : Option V, σ = [some (.ref nh), some (.ref th), some (.ref ll), v3] ∧ H7 ll = some (.lst ((lineH zs' :: (ps'.take i).map lineT).map V.str)) ∧ Keep [ll] H6 H7) ⟨_, rfl, e46, Keep.refl _⟩ (fun _ _ _ _ ⟨_, _, _, k⟩ => .of (k _ _ (by simp [sl_ll]) e6)) ?_ ?_⟩
  · rintro i y σ H7 hy ⟨v3, rfl, h7, k7⟩
    rw [List.getElem?_map] at hy
    cases et : qs2[i]? with
    | none => rw [et] at hy; cases hy
    | some u =>
    rw [et] at hy
    have ey : V.ref u = y := Option.some.inj hy
    subst ey
    obtain ⟨r, er, hu⟩ := paired_get hpr6 i u et
    rw [List.getElem?_map] at er
    cases ep : ps'[i]? with
    | none => rw [ep] at er; cases er
    | some p =>
    rw [ep] at er
    have er' := Option.some.inj er
    subst er'
    have ul : u ≠ ll := fun e => by rw [e, e46] at hu; cases hu
    have hu7 := k7 _ _ (by simp [ul]) hu
    have il : i < ps'.length := (List.getElem?_eq_some_iff.mp ep).1
    have g := gp' p (List.mem_of_getElem? ep)
    have g1 : p.1.length ≤ 8 := g.1.2
    have g2 : p.2.length ≤ 8 := g.2.2
    have len : ∀ a b : Str, (a ++ b).length = a.length + b.length := fun a b => by show (a.cps ++ b.cps).size = _; simp [Str.length]
    have l1 : ("tie " : Str).length = 4 := by decide +kernel
    have l2 : (" " : Str).length = 1 := by decide +kernel
    refine ⟨_, rfl, Or.inl ⟨rfl, _, .of h7⟩, _, rfl, u, _, 0, _, rfl, rfl, hu7, rfl, _, _, rfl, rfl, by rw [l1, sizeLine_eq]; omega, _, _, rfl, rfl, by rw [len, l1, l2, sizeLine_eq]; omega, _, rfl, u, _, 1, _, rfl, rfl, hu7, rfl, _, _, rfl, rfl, by rw [len, len, l1, l2, sizeLine_eq]; omega, ?_⟩
    rw [← line_eq]
    refine ⟨ll, _, _, rfl, rfl, h7, by rw [List.length_map, List.length_cons, List.length_map, List.length_take, sizeLine_eq]; omega, ?_⟩
    refine ⟨_, rfl, ?_, k7.trans (Keep.at (by simp))⟩
    rw [upd_same, show ps'.take (i + 1) = ps'.take i ++ [p] by rw [List.take_add_one, ep]; rfl]
    simp
  · rintro σ H7 ⟨v3, rfl, h7, k7⟩
    rw [List.length_map, lq, List.take_length] at h7
    have bll : H ll = none := (k1.trans (k2.trans k3)).none (by simp) hll
    refine ⟨rfl, _, rfl, "
", ll, _, rfl, rfl, .of h7, ?_, ?_⟩
    · have b := sum_X gz' gp' (by omega) (by omega)
      rw [show ("
" : Str).length = 1 from by decide +kernel]
      omega
    rw [nl_eq, txt_join]
    exact q zs' ps' H7 pz sz pp sp (k06.under k7 fun u hu => by rw [List.mem_singleton.mp hu]; exact bll)
end
end K81
set_option Elab.async false
set_option linter.all false
set_option maxRecDepth 100000
set_option maxHeartbeats 4000000
namespace K81
open PySem L2
noncomputable abbrev sLaw : Stmt := top 37
theorem conn_perm {zs zs' : List Str} {ps ps' : List (Str × Str)} (h : Conn zs ps) (pz : zs'.Perm zs) (pp : ps'.Perm ps) : Conn zs' ps' := fun P z0 hz p0 each z hz' =>
  h P z0 (pz.mem_iff.mp hz) p0 (fun t ht => each t (pp.mem_iff.mpr ht)) z (pz.mem_iff.mp hz')
theorem tie_perm {zs zs' : List Str} {ps ps' : List (Str × Str)} (h : ∀ t ∈ ps, TieOk zs t) (pz : zs'.Perm zs) (pp : ps'.Perm ps) : ∀ t ∈ ps', TieOk zs' t := fun t ht =>
  let ⟨a, b, c⟩ := h t (pp.mem_iff.mp ht)
  ⟨pz.mem_iff.mpr a, pz.mem_iff.mpr b, c⟩
theorem norm_swap (a b : Str) : normP (b, a) = normP (a, b) := by
  unfold normP minS maxS
  dsimp only
  cases h1 : ltS b a with
  | true => rw [ltS_asym h1]; simp
  | false =>
    cases h2 : ltS a b with
    | true => simp
    | false => rw [ltS_tot h1 h2]
theorem GT.turn {zs zs' : List Str} {ps ps' : List (Str × Str)} (g : GT zs ps) (pz : zs'.Perm zs) (pp : ps'.Perm ps) : GT zs' ps' :=
  ⟨fun z hz => g.g z (pz.mem_iff.mp hz), pz.nodup_iff.mpr g.nd, by rw [pz.length_eq]; exact g.l1, by rw [pz.length_eq]; exact g.l2, by rw [pz.length_eq, pp.length_eq]; exact g.lp, tie_perm g.t pz pp, conn_perm g.c pz pp⟩
noncomputable def swapP (p : Str × Str) : Str × Str := (p.2, p.1)
theorem GT.swap {zs : List Str} {ps : List (Str × Str)} (g : GT zs ps) : GT zs (ps.map swapP) := by
  refine ⟨g.g, g.nd, g.l1, g.l2, by rw [List.length_map]; exact g.lp, fun t ht => ?_, fun P z0 hz p0 each z hz' => ?_⟩
  · obtain ⟨u, hu, rfl⟩ := List.mem_map.mp ht
    obtain ⟨a, b, c⟩ := g.t u hu
    exact ⟨b, a, fun e => c e.symm⟩
  · exact g.c P z0 hz p0 (fun t ht => (each (swapP t) (List.mem_map.mpr ⟨t, ht, rfl⟩)).symm) z hz'
theorem swap_norm (ps : List (Str × Str)) : (ps.map swapP).map normP = ps.map normP := by
  rw [List.map_map]
  exact List.map_congr_left fun p _ => norm_swap p.1 p.2
theorem txt_one : textT ["tie"] [] = "tree tie" ∧ textT ["tree"] [] = "tree tree" := by decide +kernel
theorem gt_one {z : Str} (h : GoodN z) : GT [z] [] := by
  refine ⟨fun y hy => ?_, by simp, by simp, by simp, rfl, fun p hp => ?_, fun P z0 hz p0 _ y hy => ?_⟩
  · rw [List.mem_singleton.mp hy]; exact h
  · cases hp
  · rw [List.mem_singleton.mp hy]
    rw [List.mem_singleton.mp hz] at p0
    exact p0
section
variable {P : Program} {w : World} {K : PySem.W.Frag} {mg : Str → Option Value} {base : Heap} {C : Addr}
theorem scLaw : FnScope ["_law_script", "_law_cell", "_law_source", "_law_names_here", "_law_ties", "_law_tree_here", "_law_other", "_law_text", "_law_turn", "_law_told", "_law_found"] ["_law_script"] (defScope sLaw) := ⟨rfl, rfl, rfl, by decide +kernel, rfl, by decide +kernel, by decide +kernel⟩
noncomputable def spLaw (K : PySem.W.Frag) : Sp := fun vs H Q _ => ∃ (a : Addr) (ns : List Int), vs = [.ref a] ∧ SqL K H a (ns.map V.int) ∧ ns.length ≤ 63 ∧ ∀ H', Q (.bl true) H'
theorem okLaw {f : Addr} {fd : FuncData} (T : TreeT K C) (G : Fun K "law" "law" sLaw f fd) (CD : Cal P w K mg base CX0 1 "_law_digits" ["_law_cell"] spDigits) (CTR : Cal P w K mg base CX0 5 "_law_tree" ["_law_source", "_law_most"] spTree) (CTU : Cal P w K mg base CX0 3 "_law_turned" ["_law_source", "_law_things"] spTurned)
    (CTX : Cal P w K mg base CX0 1 "_law_tree_text" ["_law_names_here", "_law_ties"] spTxt) (CSH : Cal P w K mg base CX0 2 "show_tree" ["tree"] (spShw C)) (CRX : Cal P w K mg base CX0 7 "read_tree" ["text"] (spRdX C)) (MK : MkCal P w K mg base CX0 5 C "Tree" ["self", "houses", "ties"] (spInit C)) (MH : MCal P w K mg base CX0 1 C "houses" ["self"] (spHouses C)) (MT : MCal P w K mg base CX0 1 C "ties" ["self"] (spTies C))
    (gTree : Glo mg "Tree" (.ref C)) (ha : PySem.W.findIn K (.ref C) "__class__" = some (some (.builtin "object.__class__"))) (hng : PySem.W.specialIn K (.builtin "object.__class__") "__get__" = some (some (.builtin "getset_descriptor.__get__"))) (htk : PySem.W.takesIn K (.builtin "object.__class__") = some true) (hmr : PySem.W.mroIn K C (.type "object") = some true)
    (b_range : Blt mg "range") (b_str : Blt mg "str") (b_isinstance : Blt mg "isinstance") : FnOk P w K mg base CX0 8 f fd ["_law_script"] (spLaw K) := by
  refine G.ok scLaw (fun vs H Q E h => by obtain ⟨a, ns, rfl, _⟩ := h; rfl) (fun cdv A outer s0 H vs Q E hr h => ?_)
  obtain ⟨a, ns, rfl, hS, hlen, fin⟩ := h
  have hr1 : Room 1 _ := hr.mono (by decide)
  have hr2 : Room 2 _ := hr.mono (by decide)
  have hr3 : Room 3 _ := hr.mono (by decide)
  have hr5 : Room 5 _ := hr.mono (by decide)
  have hr6 : Room 6 _ := hr.mono (by decide)
  have hr7 : Room 7 _ := hr
  have hu4' := hu4 hr
  refine ⟨_, (pss_cons (ps_for PassesOwn.never rfl (pi_list (pe_slice sl_list (pv 0) po_none (po_some pe_int))) (pg_name (i := 1) scLaw.nd rfl (Or.inl rfl)) (pss_cons (ps_set (i := 2) scLaw.nd rfl (Or.inl rfl) (pe_cal CD hr1 (pa_cons (pv 1) pa_nil)))
      (pss_cons (ps_asg (pe_cal CTR hr5 (pa_cons (pv 2) (pa_cons pe_int pa_nil))) (pg_tup rfl (pgs_cons (pg_name (i := 3) scLaw.nd rfl (Or.inl rfl)) (pgs_cons (pg_name (i := 4) scLaw.nd rfl (Or.inl rfl)) pgs_nil))))
      (pss_cons (ps_set (i := 5) scLaw.nd rfl (Or.inl rfl) (pe_mk MK hr6 (pa_cons (pe_cal CTU hr3 (pa_cons (pv 2) (pa_cons (pv 3) pa_nil))) (pa_cons (pe_cal CTU hr3 (pa_cons (pv 2) (pa_cons (pv 4) pa_nil))) pa_nil))))
      (pss_cons (ps_set (i := 6) scLaw.nd rfl (Or.inl rfl) (pe_mk MK hr6 (pa_cons (pe_cal CTU hr3 (pa_cons (pv 2) (pa_cons (pv 3) pa_nil))) (pa_cons (pe_lc1 (N := ["_law_script", "_law_cell", "_law_source", "_law_names_here", "_law_ties", "_law_tree_here", "_law_other", "_law_text", "_law_turn", "_law_told", "_law_found"]) (sc := defScope sLaw) (ix := []) (by decide +kernel) (pi_list (pe_cal CTU hr3 (pa_cons (pv 2) (pa_cons (pv 4) pa_nil)))) (fun _ _ _ _ => pts_nil) (fun _ _ _ _ => (pe_backT (pv 0)))) pa_nil))))
      (pss_cons (ps_set (i := 7) scLaw.nd rfl (Or.inl rfl) (pe_cal CTX hr1 (pa_cons (pv 3) (pa_cons (pv 4) pa_nil))))
      (pss_one (ps_for PassesOwn.never rfl (pi_range1 rfl b_range.no (pa_cons pe_int pa_nil)) (pg_name (i := 8) scLaw.nd rfl (Or.inl rfl)) (pss_cons (ps_set (i := 9) scLaw.nd rfl (Or.inl rfl) (pe_cal CSH hr2 (pa_cons (pv 5) pa_nil)))
      (pss_cons (ps_set (i := 10) scLaw.nd rfl (Or.inl rfl) (pe_cal CRX hr7 (pa_cons (pv 7) pa_nil)))
      (pss_cons (ps_if (PW.pt (pw_or (pt_not (pt_val (pe_blt call_isinst b_isinstance bo_isinstance (pa_cons (pv 9) (pa_cons (pe_ty b_str bo_str) pa_nil))))) (pw_or (pt_cmpR op_ne (pv 9) (pv 7) (nomark _)) (pw_or (pt_cmpR op_ne (pe_cal CSH hr2 (pa_cons (pv 6) pa_nil)) (pv 7) (nomark _)) (pw_or1 (pt_not (pt_val (pe_blt call_isinstC b_isinstance bo_isinstance (pa_cons (pv 10) (pa_cons (pe_glo gTree) pa_nil)))))))))) (pss_one (ps_ret pe_bl)) pss_nil)
      (pss_one (ps_if (PW.pt (pw_or (pt_cmpR (op_neL hu4') (pe_mth0 MH T.cl hr1 (pv 10)) (pe_mth0 MH T.cl hr1 (pv 5)) (nomark _)) (pw_or (pt_cmpR (op_neL hu4') (pe_mth0 MT T.cl hr1 (pv 10)) (pe_mth0 MT T.cl hr1 (pv 5)) (nomark _)) (pw_or1 (pt_cmpR op_ne (pe_cal CSH hr2 (pa_cons (pv 10) pa_nil)) (pv 7) (nomark _)))))) (pss_one (ps_ret pe_bl)) pss_nil)))))))))))))
      (pss_one (ps_ret (pe_and (pe_cmpR op_eq (pe_cal CSH hr2 (pa_cons (pe_mk MK hr6 (pa_cons (pe_lst (pa_cons pe_str pa_nil)) (pa_cons (pe_lst pa_nil) pa_nil))) pa_nil)) pe_str (nomark _)) (pe_one (pe_cmpR (op_eqL hu4') (pe_mth0 MH T.cl hr1 (pe_cal CRX hr7 (pa_cons pe_str pa_nil))) (pe_lst (pa_cons pe_str pa_nil)) (nomark _))))))), ?_⟩
  obtain ⟨ms, hms, lms⟩ := cut_ints ns none (some 12)
  refine ⟨_, rfl, 12, rfl, a, _, rfl, hS, fun sl hsl => ?_⟩
  rw [hms]
  generalize hH1 : upd H sl (.lst (ms.map V.int)) = H1
  have hs1 : H1 sl = some (.lst (ms.map V.int)) := by rw [← hH1]; exact upd_same
  refine ⟨sl, rfl, ⟨_, .of hs1⟩, for_list (K := K) (a := sl) (xs := ms.map V.int) (fun _ σ H2 => ∃ (v1 v2 v3 v4 v5 v6 v7 v8 v9 v10 : Option V), σ = [some (.ref a), v1, v2, v3, v4, v5, v6, v7, v8, v9, v10] ∧ Keep [] H1 H2) ⟨_, _, _, _, _, _, _, _, _, _, rfl, Keep.refl _⟩ (fun _ _ _ _ ⟨_, _, _, _, _, _, _, _, _, _, _, k⟩ => .of (k _ _ (by simp) hs1)) ?_ ?_⟩
  · rintro i y σ H2 hi ⟨v1, v2, v3, v4, v5, v6, v7, v8, v9, v10, rfl, k12⟩
    rw [List.getElem?_map] at hi
    cases en : ms[i]? with
    | none => rw [en] at hi; cases hi
    | some cell =>
    rw [en] at hi
    have ec : V.int cell = y := Option.some.inj hi
    subst ec
    refine ⟨_, rfl, cell, rfl, fun s b c e hs => ?_⟩
    have k3 : Keep [] H2 (upd H2 s (.lst [.int b, .int c, .int e])) := Keep.new hs
    generalize hH3 : upd H2 s (.lst [.int b, .int c, .int e]) = H3 at k3
    have s3 : Src H3 s := ⟨b, c, e, by rw [← hH3]; exact upd_same⟩
    refine ⟨_, rfl, s, 12, rfl, s3, by decide, by decide, fun t nh th zs ps H4 ht hnh hth et enh ⟨qs, eth, hq⟩ gz nd l1 l2 lp tz cn gr k4 s4 => ?_⟩
    have sn : nh ≠ s := s3.ne hnh
    have st : th ≠ s := s3.ne hth
    refine ⟨t, _, rfl, .of et, rfl, _, _, rfl, _, _, rfl, rfl, ?_⟩
    have lq := paired_len hq
    rw [List.length_map] at lq
    have noS : ∀ {H' : Hp}, Src H' s → ∀ u ∈ [s], ∀ xs, H' u ≠ some (.tup xs) := fun {H'} hs u hu xs z => by
      obtain ⟨x1, x2, x3, z'⟩ := hs
      rw [List.mem_singleton.mp hu, z'] at z; cases z
    refine ⟨_, rfl, _, rfl, s, nh, _, rfl, s4, enh, by rw [List.length_map]; omega, sn, fun h0 kk bb H5 hh0 e0 k5 s5 => ?_⟩
    refine ⟨_, rfl, _, rfl, s, th, _, rfl, s5, k5 _ _ (by simp [st]) eth, by rw [List.length_map]; omega, st, fun h1 kk' bb' H6 hh1 e1 k6 s6 => fun x dx hx hdx ne => ?_⟩
    rw [← turn_map] at e0 e1
    have n0 : h0 ≠ s := s4.ne hh0
    have k46 := k5.trans k6
    have hq6 := paired_far k46 (noS s4) hq
    have hqt := paired_turn kk' bb' hq6
    rw [← turn_map] at hqt
    have pzT := turn_perm kk bb zs
    have ppT := turn_perm kk' bb' ps
    refine made h0 h1 (turn kk bb zs) (turn kk' bb' ps) _ hx hdx ne (k6 _ _ (by simp [n0]) e0) e1 hqt (fun z hz => gz z (pzT.mem_iff.mp hz)) (pzT.nodup_iff.mpr nd) (by rw [pzT.length_eq]; exact l1) (by rw [pzT.length_eq]; omega) (by rw [pzT.length_eq, ppT.length_eq]; exact lp) (tie_perm tz pzT ppT) (conn_perm cn pzT ppT) fun B zs' ps' H7 pz sz pp sp tr farB k7 => ⟨rfl, ?_⟩
    have k47 : Keep [s] H4 H7 := k46.trans (k7.mono (by simp))
    have s7 := s6.on k7
    have sB : B s ≠ none ∧ s ≠ x := by
      obtain ⟨x1, x2, x3, z⟩ := s6
      exact farB _ _ z
    have enh7 := k47 _ _ (by simp [sn]) enh
    have eth7 := k47 _ _ (by simp [st]) eth
    have hq7 := paired_far k47 (noS s4) hq
    have pzz : zs'.Perm zs := pz.trans pzT
    have ppp : ps'.Perm (ps.map normP) := pp.trans (ppT.map normP)
    have gt0 : GT zs ps := ⟨gz, nd, l1, l2, lp, tz, cn⟩
    have gt' : GT zs' ps' := gt0.norm pzz ppp
    have up2 : Up2 ps' := up2_of gt0 pzz ppp sp
    have lz' := gt'.l2
    have lp' := gt'.lp
    refine ⟨_, rfl, _, rfl, s, nh, _, rfl, s7, enh7, by rw [List.length_map]; omega, sn, fun h2 kk2 bb2 H8 hh2 e2 k8 s8 => ?_⟩
    refine ⟨_, rfl, _, rfl, s, th, _, rfl, s8, k8 _ _ (by simp [st]) eth7, by rw [List.length_map]; omega, st, fun h3 kk3 bb3 H9 hh3 e3 k9 s9 => ?_⟩
    rw [← turn_map] at e2 e3
    have n2 : h2 ≠ s := s7.ne hh2
    have k79 := k8.trans k9
    have hq9 := paired_turn kk3 bb3 (paired_far k79 (noS s7) hq7)
    rw [← turn_map] at hq9
    have pz2 := turn_perm kk2 bb2 zs
    have pp2 := turn_perm kk3 bb3 ps
    have l3 := pp2.length_eq
    refine ⟨h3, rfl, ⟨_, .of e3⟩, fun c1 hc1 => ?_⟩
    refine lc_rows (ds := turn kk3 bb3 ps) pairV (fun t => pairV (swapP t)) (fun _ => true) (fun _ q => [some (.ref q)]) [] (by omega) hc1 ⟨_, e3, hq9⟩ ⟨[none], rfl, rfl⟩ (fun _ _ => rfl) ?_ (fun t q H R _ _ _ h => h H (Keep.refl _)) ?_ ?_
    · intro t q vs H R _ hv _ h
      match vs, hv with
      | [v], _ => exact h
    · intro t q H R _ hq h
      refine ⟨_, rfl, q, _, _, rfl, hq, fun bk hbk => ?_⟩
      exact h bk _ (Keep.new hbk) upd_same
    intro HA hRA kA
    obtain ⟨ts, hts, htp⟩ := hRA
    rw [List.filter_eq_self.mpr (by simp)] at htp
    have gt2 := (gt0.turn pz2 pp2).swap
    have k7A : Keep [s] H7 HA := k79.trans (kA.mono (by simp))
    have e2A := kA _ _ (by simp) (k9 _ _ (by simp [n2]) e2)
    refine fun x2 dx2 hx2 hdx2 ne2 => ?_
    refine made h2 c1 (turn kk2 bb2 zs) ((turn kk3 bb3 ps).map swapP) ts hx2 hdx2 ne2 e2A hts (by rw [List.map_map]; exact htp) gt2.g gt2.nd gt2.l1 (by have := gt2.l2; omega) gt2.lp gt2.t gt2.c fun B2 zs2 ps2 HB pz3 sz3 pp3 sp3 tr2 farB2 kB => ⟨rfl, ?_⟩
    have ez2 : zs2 = zs' := asc_uniq (fun a b => ltS_tot) ((pz3.trans pz2).trans pzz.symm) sz3 sz
    rw [swap_norm] at pp3
    have ep2 : ps2 = ps' := asc_uniq (fun a b => ltP_tot) ((pp3.trans (pp2.map normP)).trans ppp.symm) sp3 sp
    subst ez2 ep2
    have k7B : Keep [s] H7 HB := k7A.trans (kB.mono (by simp))
    have trB : TreeAt B C HB x zs2 ps2 := tr.keep k7B (fun u hu => by rw [List.mem_singleton.mp hu]; exact ⟨sB.2, sB.1, noS s7 s (by simp)⟩)
    refine ⟨_, rfl, _, rfl, nh, th, zs, ps, rfl, k7B _ _ (by simp [sn]) enh7, ⟨qs, k7B _ _ (by simp [st]) eth7, paired_far k7B (noS s7) hq7⟩, gt0, fun zs5 ps5 HC pz5 sz5 pp5 sp5 kC => ?_⟩
    have ez5 : zs5 = zs2 := asc_uniq (fun a b => ltS_tot) (pz5.trans pzz.symm) sz5 sz
    have ep5 : ps5 = ps2 := asc_uniq (fun a b => ltP_tot) (pp5.trans ppp.symm) sp5 sp
    subst ez5 ep5
    have gp' := gt'.gp
    refine ⟨2, rfl, by decide, by decide, for_range (fun _ σ HD => ∃ (v8 v9 v10 : Option V), σ = [some (.ref a), some (.int cell), some (.ref s), some (.ref nh), some (.ref th), some (.ref x), some (.ref x2), some (.str (textT zs5 ps5)), v8, v9, v10] ∧ Keep [] HC HD) ⟨_, _, _, rfl, Keep.refl _⟩ ?_ ?_⟩
    · rintro jt σ HD _ ⟨v8, v9, v10, rfl, kD⟩
      have trD := (trB.on kC).on kD
      refine ⟨_, rfl, x, B, zs5, ps5, rfl, trD, gt'.g, gp', lz', by omega, fun HE kE => ?_⟩
      refine ⟨_, rfl, zs5, ps5, rfl, gt', sz, sp, up2, fun xf HF hxf trF kF => ?_⟩
      have kDF := kE.trans kF
      have kCF := kD.trans kDF
      refine ⟨_, rfl, _, _, _, true, rfl, .str _, by simp [PySem.W.kitOne], _, rfl, ifF rfl ?_⟩
      refine ⟨_, rfl, _, rfl, rfl, _, rfl, ifF (by simp) ?_⟩
      refine ⟨_, rfl, x2, B2, zs5, ps5, rfl, (tr2.on kC).on kCF, gt'.g, gp', lz', by omega, fun HG kG => ⟨_, rfl, rfl, _, rfl, ifF (by simp) ?_⟩⟩
      have trG := trF.on kG
      obtain ⟨dxf, _, _, _, _, _, _, hxfG, _⟩ := id trG
      refine ⟨_, rfl, _, _, C, true, rfl, .ins hxfG T.cl ha hng htk hmr, by simp [PySem.W.kitOne], _, rfl, ifF rfl ?_⟩
      have kDG := kDF.trans kG
      have trDG := trD.on kDG
      obtain ⟨dx1, _, _, _, _, _, _, hx1G, _⟩ := id trDG
      refine ⟨_, rfl, xf, dxf, _, rfl, hxfG, tfl_hs _ _ _, xf, HE, zs5, ps5, rfl, trG, fun ho hho => ?_⟩
      have kH : Keep [] HG (upd HG ho (.lst (zs5.map V.str))) := Keep.new hho
      generalize hHH : upd HG ho (.lst (zs5.map V.str)) = HH at kH
      have hoH : HH ho = some (.lst (zs5.map V.str)) := by rw [← hHH]; exact upd_same
      refine ⟨_, rfl, x, dx1, _, rfl, kH _ _ (by simp) hx1G, tfl_hs _ _ _, x, B, zs5, ps5, rfl, trDG.on kH, fun ho2 hho2 => ?_⟩
      have kI : Keep [] HH (upd HH ho2 (.lst (zs5.map V.str))) := Keep.new hho2
      refine ⟨ho, ho2, _, _, rfl, rfl, kI _ _ (by simp) hoH, upd_same, rfl, like_texts zs5, _, rfl, ifF rfl ?_⟩
      generalize upd HH ho2 (.lst (zs5.map V.str)) = HI at kI
      have kGI := kH.trans kI
      refine ⟨_, rfl, xf, dxf, _, rfl, kGI _ _ (by simp) hxfG, tfl_ts _ _ _, xf, HE, zs5, ps5, rfl, trG.on kGI, fun tl1 HJ htl1 ⟨q1, hq1, hp1⟩ kJ => ?_⟩
      have kGJ := kGI.trans kJ
      refine ⟨_, rfl, x, dx1, _, rfl, kGJ _ _ (by simp) hx1G, tfl_ts _ _ _, x, B, zs5, ps5, rfl, trDG.on kGJ, fun tl2 HK htl2 ⟨q2, hq2, hp2⟩ kK => ?_⟩
      have hp1K := paired_far kK (fun u hu => by cases hu) hp1
      have lt1 := paired_len hp1K
      have lt2 := paired_len hp2
      refine ⟨tl1, tl2, _, _, rfl, rfl, kK _ _ (by simp) hq1, hq2, by rw [List.length_map, List.length_map, lt1, lt2], like_pairs hp1K hp2, _, rfl, ifF rfl ?_⟩
      have kGK := kGJ.trans kK
      refine ⟨_, rfl, xf, HE, zs5, ps5, rfl, trG.on kGK, gt'.g, gp', lz', by omega, fun HL kL => ⟨_, rfl, rfl, _, rfl, ifF (by simp) ?_⟩⟩
      exact ⟨_, _, _, rfl, (kD.trans kDG).trans (kGK.trans kL)⟩
    rintro σ HD ⟨v8, v9, v10, rfl, kD⟩
    refine ⟨_, _, _, _, _, _, _, _, _, _, rfl, ?_⟩
    exact k12.trans (k3.under (k4.trans (k47.trans (k7B.trans ((kC.trans kD).mono (by simp))))) (fun u hu => by rw [List.mem_singleton.mp hu]; exact hs))
  · rintro σ H2 ⟨v1, v2, v3, v4, v5, v6, v7, v8, v9, v10, rfl, _⟩
    refine ⟨by show 1 ≤ sizeLine; decide, fun l1 hl1 => ⟨by show 0 ≤ sizeLine; decide, fun l2 hl2 => fun x dx hx hdx ne => ?_⟩⟩
    obtain ⟨_, l12⟩ := upd_none hl2
    have g0 : GoodN ("tie" : Str) := by unfold GoodN; decide +kernel
    have g1 : GoodN ("tree" : Str) := by unfold GoodN; decide +kernel
    have t0 := gt_one g0
    have t1 := gt_one g1
    refine made l1 l2 [("tie" : Str)] [] [] hx hdx ne (by rw [upd_ne l12.symm, upd_same]; rfl) upd_same .nil t0.g t0.nd t0.l1 (by simp) t0.lp t0.t t0.c fun B zs' ps' HC pz sz pp sp tr _ _ => ⟨rfl, ?_⟩
    have ez : zs' = [("tie" : Str)] := List.perm_singleton.mp pz
    have ep : ps' = [] := List.perm_nil.mp pp
    subst ez ep
    refine ⟨x, B, [("tie" : Str)], [], rfl, tr, t0.g, (fun p hp => by cases hp), by simp, by simp, fun HD kD => ⟨rfl, _, rfl, ifT (by rw [txt_one.1]; simp) ?_⟩⟩
    refine ⟨[("tree" : Str)], [], congrArg (fun z => [V.str z]) txt_one.2.symm, t1, List.pairwise_singleton _ _, List.Pairwise.nil, ⟨(fun p hp => by cases hp), (fun l1 a b l2 e => by simp at e)⟩, fun xr HE hxr trE kE => ?_⟩
    obtain ⟨dxr, _, _, _, _, _, _, hxrE, _⟩ := id trE
    refine ⟨xr, dxr, _, rfl, hxrE, tfl_hs _ _ _, xr, HD, [("tree" : Str)], [], rfl, trE, fun ho hho => ⟨by show 1 ≤ sizeLine; decide, fun lt hlt => ?_⟩⟩
    have kF : Keep [] (upd HE ho (.lst ([("tree" : Str)].map V.str))) (upd (upd HE ho (.lst ([("tree" : Str)].map V.str))) lt (.lst [.str "tree"])) := Keep.new hlt
    refine ⟨ho, lt, _, _, rfl, rfl, kF _ _ (by simp) upd_same, upd_same, rfl, like_texts [("tree" : Str)], ?_⟩
    exact fin _
end
end K81
section
open PySem PySem.W PyProof.Rows
set_option Elab.async false
set_option linter.all false
set_option maxRecDepth 100000
set_option maxHeartbeats 0
noncomputable section
namespace HD
open PySem PySem.W L2
variable (P : Params)
noncomputable def tp (i : Nat) : Stmt := PySem.Challenge.pw_treeright_k81_trees_as_texts.main.body.getD i (.Pass ⟨0, 0, 0, 0⟩)
noncomputable def ic (i j : Nat) : Stmt := inClass (tp i) j
noncomputable abbrev N := @BT.node
noncomputable abbrev L := BT.nil
noncomputable def en (P : Params) (k : Str) (t : Nat) (v : Value) : DictEntry := ⟨PyData.keyHash P k, .str k t, v⟩
noncomputable def o0 : Obj := ⟨.none, none, (Data.fields #[]), #[]⟩
noncomputable def o1 : Obj := ⟨(.type "tuple"), none, (Data.seq #[] 0), #[]⟩
noncomputable def h0 (a0 : Str) (a1 : Nat) (a2 : Str) (a3 : Nat) (a4 : Nat) (a5 : Int) (a6 : Int) (a7 : Nat) (a8 : Nat) (a9 : Nat) (a10 : Int) (a11 : Nat) : Obj := ⟨(.type "code"), none, (Data.fields #[(.str a0 a1), (.str a2 a3), (.str "/claim/cut.py" a4), (.int a5 0), (.int a6 0), (.int 0 0), (.int 0 0), (.int 3 0), (.ref a7), (.bool true), (.int 181 0), (.ref a8), .none, .none, .none, (.ref a9), (.int a10 0), (.int a5 0), (.str "/claim/cut.py" a11)]), #[]⟩
noncomputable def o2 : Obj := h0 "law" 568 "law" 569 570 177 1 298 299 300 571 572
noncomputable def o14 : Obj := h0 "are_ties" 321 "are_ties" 322 323 36 2 116 117 118 324 325
noncomputable def o28 : Obj := h0 "are_names" 291 "are_names" 292 293 25 1 90 91 92 294 295
noncomputable def o74 : Obj := h0 "_law_tree_text" 562 "_law_tree_text" 563 564 172 2 293 294 295 565 566
noncomputable def o77 : Obj := h0 "is_name" 277 "is_name" 278 279 19 1 78 79 80 280 281
noncomputable def o106 : Obj := h0 "__init__" 357 "Tree.__init__" 358 359 58 3 140 141 142 360 361
noncomputable def o117 : Obj := h0 "show_tree" 425 "show_tree" 426 427 94 1 194 195 196 428 429
noncomputable def o140 : Obj := h0 "_law_word" 517 "_law_word" 518 519 139 2 262 263 264 520 521
noncomputable def o175 : Obj := h0 "_law_names" 523 "_law_names" 524 525 142 2 267 268 269 526 527
noncomputable def o181 : Obj := h0 "tied_to_each" 327 "tied_to_each" 328 329 40 2 121 122 123 330 331
noncomputable def h1 (a0 : Str) (a1 : Nat) (a2 : Str) (a3 : Nat) (a4 : Nat) (a5 : Int) (a6 : Int) (a7 : Nat) (a8 : Nat) (a9 : Nat) (a10 : Nat) (a11 : Nat) (a12 : Int) (a13 : Nat) : Obj := ⟨(.type "code"), none, (Data.fields #[(.str a0 a1), (.str a2 a3), (.str "/claim/cut.py" a4), (.int a5 0), (.int a6 0), (.int 0 0), (.int 0 0), (.int 3 0), (.ref a7), (.bool true), (.int 181 0), (.ref a8), .none, (.ref a9), (.ref a10), (.ref a11), (.int a12 0), (.int a5 0), (.str "/claim/cut.py" a13)]), #[]⟩
noncomputable def o3 : Obj := h1 "read_tie" 460 "read_tie" 461 462 114 4 220 221 222 223 224 470 471
noncomputable def o7 : Obj := h1 "neighbours" 377 "Tree.neighbours" 378 379 75 2 159 160 161 162 163 382 383
noncomputable def o13 : Obj := h1 "closes_ring" 481 "closes_ring" 482 483 122 3 234 235 236 237 238 487 488
noncomputable def o19 : Obj := h1 "read_houses" 451 "read_houses" 452 453 109 1 213 214 215 216 217 457 458
noncomputable def o25 : Obj := h1 "steps_toward" 333 "steps_toward" 334 335 46 2 126 127 128 129 130 342 343
noncomputable def o35 : Obj := h1 "_law_mixed" 492 "_law_mixed" 493 494 125 2 241 242 243 244 245 498 499
noncomputable def o52 : Obj := h1 "_law_digits" 501 "_law_digits" 502 503 130 1 248 249 250 251 252 505 506
noncomputable def o56 : Obj := h1 "is_one_of" 283 "is_one_of" 284 285 23 2 83 84 85 86 87 288 289
noncomputable def o57 : Obj := h1 "check_house" 404 "Tree.check_house" 405 406 90 2 180 181 182 183 184 409 410
noncomputable def o58 : Obj := h1 "ties" 370 "Tree.ties" 371 372 72 1 152 153 154 155 156 374 375
noncomputable def o78 : Obj := h1 "_law_tree" 549 "_law_tree" 550 551 164 2 286 287 288 289 290 559 560
noncomputable def o85 : Obj := h1 "rises" 473 "rises" 474 475 120 2 227 228 229 230 231 478 479
noncomputable def o93 : Obj := h1 "_law_shuffled" 539 "_law_shuffled" 540 541 158 2 279 280 281 282 283 546 547
noncomputable def o97 : Obj := h1 "road" 385 "Tree.road" 386 387 78 3 166 167 168 169 170 393 394
noncomputable def o100 : Obj := h1 "__init__" 258 "NoText.__init__" 259 260 13 2 66 67 68 69 70 263 264
noncomputable def o102 : Obj := h1 "_wall" 187 "_wall" 188 189 1 1 15 16 17 18 19 191 192
noncomputable def o119 : Obj := h1 "check_text" 431 "check_text" 432 433 96 1 199 200 201 202 203 435 436
noncomputable def o136 : Obj := h1 "is_tie" 311 "is_tie" 312 313 31 2 109 110 111 112 113 318 319
noncomputable def o143 : Obj := h1 "are_houses" 304 "are_houses" 305 306 29 1 102 103 104 105 106 308 309
noncomputable def o152 : Obj := h1 "_law_turned" 529 "_law_turned" 530 531 154 2 272 273 274 275 276 536 537
noncomputable def o154 : Obj := h1 "are_unlike" 297 "are_unlike" 298 299 27 1 95 96 97 98 99 301 302
noncomputable def o156 : Obj := h1 "without" 396 "Tree.without" 397 398 87 2 173 174 175 176 177 401 402
noncomputable def o160 : Obj := h1 "_law_next" 508 "_law_next" 509 510 132 2 255 256 257 258 259 514 515
noncomputable def o165 : Obj := h1 "read_tree" 438 "read_tree" 439 440 99 1 206 207 208 209 210 448 449
noncomputable def o195 : Obj := h1 "houses" 363 "Tree.houses" 364 365 69 1 145 146 147 148 149 367 368
noncomputable def o4 : Obj := ⟨.none, none, (Data.fields #[(.int 1 0), (.int 0 0), (.ref 20), (.int 5 0), (.int 0 0), (.ref 27), (.int 7 0), (.int 0 0), (.ref 40)]), #[]⟩
noncomputable def h2 (a0 : Str) (a1 : Str) (a2 : Stmt) : Obj := ⟨.none, none, (Data.func ⟨a0, a1, (defArgs a2), (FuncBody.stmts (defBody a2)), (defScope a2), 0, [], .none, .none, .none, .none, none, .none, .none, 0⟩), #[]⟩
noncomputable def o5 : Obj := h2 "_law_shuffled" "_law_shuffled" (tp 34)
noncomputable def o12 : Obj := h2 "_law_tree" "_law_tree" (tp 35)
noncomputable def o23 : Obj := h2 "houses" "Tree.houses" (ic 18 1)
noncomputable def o26 : Obj := h2 "_law_mixed" "_law_mixed" (tp 28)
noncomputable def o30 : Obj := h2 "show_tree" "show_tree" (tp 20)
noncomputable def o33 : Obj := h2 "tied_to_each" "tied_to_each" (tp 16)
noncomputable def o37 : Obj := h2 "rises" "rises" (tp 25)
noncomputable def o39 : Obj := h2 "_law_digits" "_law_digits" (tp 29)
noncomputable def o44 : Obj := h2 "without" "Tree.without" (ic 18 5)
noncomputable def o46 : Obj := h2 "closes_ring" "closes_ring" (tp 26)
noncomputable def o68 : Obj := h2 "are_houses" "are_houses" (tp 13)
noncomputable def o86 : Obj := h2 "are_ties" "are_ties" (tp 15)
noncomputable def o87 : Obj := h2 "read_houses" "read_houses" (tp 23)
noncomputable def o91 : Obj := h2 "_law_word" "_law_word" (tp 31)
noncomputable def o94 : Obj := h2 "neighbours" "Tree.neighbours" (ic 18 3)
noncomputable def o96 : Obj := h2 "is_name" "is_name" (tp 9)
noncomputable def o99 : Obj := h2 "are_unlike" "are_unlike" (tp 12)
noncomputable def o104 : Obj := h2 "_law_tree_text" "_law_tree_text" (tp 36)
noncomputable def o107 : Obj := h2 "are_names" "are_names" (tp 11)
noncomputable def o111 : Obj := h2 "ties" "Tree.ties" (ic 18 2)
noncomputable def o112 : Obj := h2 "__init__" "Tree.__init__" (ic 18 0)
noncomputable def o115 : Obj := h2 "read_tree" "read_tree" (tp 22)
noncomputable def o125 : Obj := h2 "_law_next" "_law_next" (tp 30)
noncomputable def o132 : Obj := h2 "read_tie" "read_tie" (tp 24)
noncomputable def o150 : Obj := h2 "steps_toward" "steps_toward" (tp 17)
noncomputable def o151 : Obj := h2 "is_one_of" "is_one_of" (tp 10)
noncomputable def o153 : Obj := h2 "__init__" "NoText.__init__" (ic 5 0)
noncomputable def o158 : Obj := h2 "law" "law" (tp 37)
noncomputable def o159 : Obj := h2 "check_house" "Tree.check_house" (ic 18 6)
noncomputable def o164 : Obj := h2 "_law_turned" "_law_turned" (tp 33)
noncomputable def o171 : Obj := h2 "_law_names" "_law_names" (tp 32)
noncomputable def o185 : Obj := h2 "road" "Tree.road" (ic 18 4)
noncomputable def o191 : Obj := h2 "check_text" "check_text" (tp 21)
noncomputable def o193 : Obj := h2 "is_tie" "is_tie" (tp 14)
noncomputable def o197 : Obj := h2 "_wall" "_wall" (tp 0)
noncomputable def o6 : Obj := ⟨(.type "dict"), none, (Data.dict #[en P "__name__" 165 (.str "law_treeright_k81_trees_as_texts" 490), en P "__doc__" 166 .none, en P "__package__" 167 .none, en P "__loader__" 168 (.builtin "__main__.__loader__#opaque"), en P "__spec__" 169 .none, en P "__annotations__" 170 (.ref 6), en P "__builtins__" 171 (.ref 4), en P "__file__" 173 (.str "/claim/cut.py" 172), en P "__cached__" 174 .none, en P "_wall" 193 (.ref 21), en P "TreeError" 213 (.ref 31), en P "NoTree" 229 (.ref 44), en P "NoHouse" 245 (.ref 56), en P "NoText" 270 (.ref 75), en P "LETTERS" 274 (.str "abcdefghijklmnopqrstuvwxyz" 273), en P "LONGEST_NAME" 276 (.int 8 275), en P "is_name" 282 (.ref 82), en P "is_one_of" 290 (.ref 89), en P "are_names" 296 (.ref 94), en P "are_unlike" 303 (.ref 101), en P "are_houses" 310 (.ref 108), en P "is_tie" 320 (.ref 115), en P "are_ties" 326 (.ref 120), en P "tied_to_each" 332 (.ref 125), en P "steps_toward" 344 (.ref 132), en P "Tree" 422 (.ref 189), en P "show_tree" 430 (.ref 198), en P "check_text" 437 (.ref 205), en P "read_tree" 450 (.ref 212), en P "read_houses" 459 (.ref 219), en P "read_tie" 472 (.ref 226), en P "rises" 480 (.ref 233), en P "closes_ring" 489 (.ref 240), en P "_law_mixed" 500 (.ref 247), en P "_law_digits" 507 (.ref 254), en P "_law_next" 516 (.ref 261), en P "_law_word" 522 (.ref 266), en P "_law_names" 528 (.ref 271)] 38), #[]⟩
noncomputable def o8 : Obj := ⟨.none, none, (Data.fields #[(.int 1 0), (.int 0 0), (.ref 20), (.int 5 0), (.int 0 0), (.ref 27)]), #[]⟩
noncomputable def h3 (a0 : Str) (a1 : Nat) (a2 : Str) (a3 : Nat) (a4 : Str) (a5 : Nat) (a6 : Str) (a7 : Nat) : Obj := ⟨(.type "tuple"), none, (Data.seq #[(.str a0 a1), (.str a2 a3), (.str a4 a5), (.str a6 a7)] 0), #[]⟩
noncomputable def o9 : Obj := h3 "thing" 314 "houses" 315 "one" 316 "other" 317
noncomputable def o32 : Obj := h3 "_law_source" 532 "_law_things" 533 "_law_at" 534 "_law_found" 535
noncomputable def o109 : Obj := h3 "_law_source" 542 "_law_names_here" 543 "_law_left" 544 "_law_found" 545
noncomputable def h4 (a0 : Str) (a1 : Nat) (a2 : Nat) (a3 : Nat) (a4 : Nat) (a5 : Nat) : Obj := ⟨(.type "type"), none, (Data.cls ⟨a0, [(.ref 31)], [(.ref a1), (.ref 31), (.type "ValueError"), (.type "Exception"), (.type "BaseException"), (.type "object")], a2, a0, true, [], [], false, none, false⟩), #[(some (.ref a3)), none, (some (.str a0 a4)), (some (.str a0 a5)), (some (.builtin "ValueError.__new__")), (some (.bool true))]⟩
noncomputable def o10 : Obj := h4 "NoTree" 44 43 35 214 222
noncomputable def o128 : Obj := h4 "NoText" 75 74 59 246 254
noncomputable def o174 : Obj := h4 "NoHouse" 56 55 47 230 238
noncomputable def h5 (a0 : Str) (a1 : Str) (a2 : Stmt) (a3 : Str) (a4 : Nat) (a5 : Nat) : Obj := ⟨(.type "function"), none, (Data.func ⟨a0, a1, (defArgs a2), (FuncBody.stmts (defBody a2)), (defScope a2), 3, [], .none, .none, .none, (.str a3 a4), none, (.ref a5), .none, 0⟩), #[]⟩
noncomputable def o11 : Obj := h5 "_law_digits" "_law_digits" (tp 29) "law_treeright_k81_trees_as_texts" 490 253
noncomputable def o24 : Obj := h5 "_law_next" "_law_next" (tp 30) "law_treeright_k81_trees_as_texts" 490 260
noncomputable def o36 : Obj := h5 "houses" "Tree.houses" (ic 18 1) "treeright.trees" 271 150
noncomputable def o43 : Obj := h5 "_law_turned" "_law_turned" (tp 33) "law_treeright_k81_trees_as_texts" 490 277
noncomputable def o45 : Obj := h5 "steps_toward" "steps_toward" (tp 17) "treeright.trees" 271 131
noncomputable def o48 : Obj := h5 "_law_shuffled" "_law_shuffled" (tp 34) "law_treeright_k81_trees_as_texts" 490 284
noncomputable def o49 : Obj := h5 "_law_word" "_law_word" (tp 31) "law_treeright_k81_trees_as_texts" 490 265
noncomputable def o53 : Obj := h5 "tied_to_each" "tied_to_each" (tp 16) "treeright.trees" 271 124
noncomputable def o54 : Obj := h5 "__init__" "NoText.__init__" (ic 5 0) "treeright.errors" 194 71
noncomputable def o66 : Obj := h5 "is_one_of" "is_one_of" (tp 10) "treeright.trees" 271 88
noncomputable def o69 : Obj := h5 "is_name" "is_name" (tp 9) "treeright.trees" 271 81
noncomputable def o70 : Obj := h5 "law" "law" (tp 37) "law_treeright_k81_trees_as_texts" 490 301
noncomputable def o71 : Obj := h5 "rises" "rises" (tp 25) "treeright.texts" 423 232
noncomputable def o73 : Obj := h5 "_law_tree_text" "_law_tree_text" (tp 36) "law_treeright_k81_trees_as_texts" 490 296
noncomputable def o81 : Obj := h5 "check_text" "check_text" (tp 21) "treeright.texts" 423 204
noncomputable def o84 : Obj := h5 "_law_names" "_law_names" (tp 32) "law_treeright_k81_trees_as_texts" 490 270
noncomputable def o88 : Obj := h5 "road" "Tree.road" (ic 18 4) "treeright.trees" 271 171
noncomputable def o89 : Obj := h5 "show_tree" "show_tree" (tp 20) "treeright.texts" 423 197
noncomputable def o92 : Obj := h5 "closes_ring" "closes_ring" (tp 26) "treeright.texts" 423 239
noncomputable def o98 : Obj := h5 "without" "Tree.without" (ic 18 5) "treeright.trees" 271 178
noncomputable def o110 : Obj := h5 "are_houses" "are_houses" (tp 13) "treeright.trees" 271 107
noncomputable def o113 : Obj := h5 "ties" "Tree.ties" (ic 18 2) "treeright.trees" 271 157
noncomputable def o127 : Obj := h5 "read_tie" "read_tie" (tp 24) "treeright.texts" 423 225
noncomputable def o129 : Obj := h5 "_law_tree" "_law_tree" (tp 35) "law_treeright_k81_trees_as_texts" 490 291
noncomputable def o138 : Obj := h5 "__init__" "Tree.__init__" (ic 18 0) "treeright.trees" 271 143
noncomputable def o141 : Obj := h5 "are_ties" "are_ties" (tp 15) "treeright.trees" 271 119
noncomputable def o144 : Obj := h5 "are_names" "are_names" (tp 11) "treeright.trees" 271 93
noncomputable def o157 : Obj := h5 "check_house" "Tree.check_house" (ic 18 6) "treeright.trees" 271 185
noncomputable def o167 : Obj := h5 "_wall" "_wall" (tp 0) "__main__" 164 20
noncomputable def o173 : Obj := h5 "read_houses" "read_houses" (tp 23) "treeright.texts" 423 218
noncomputable def o182 : Obj := h5 "neighbours" "Tree.neighbours" (ic 18 3) "treeright.trees" 271 164
noncomputable def o184 : Obj := h5 "is_tie" "is_tie" (tp 14) "treeright.trees" 271 114
noncomputable def o187 : Obj := h5 "_law_mixed" "_law_mixed" (tp 28) "law_treeright_k81_trees_as_texts" 490 246
noncomputable def o188 : Obj := h5 "read_tree" "read_tree" (tp 22) "treeright.texts" 423 211
noncomputable def o196 : Obj := h5 "are_unlike" "are_unlike" (tp 12) "treeright.trees" 271 100
noncomputable def h6 (a0 : Str) (a1 : Nat) : Obj := ⟨(.type "tuple"), none, (Data.seq #[(.str a0 a1)] 0), #[]⟩
noncomputable def o15 : Obj := h6 "thing" 307
noncomputable def o51 : Obj := h6 "self" 373
noncomputable def o161 : Obj := h6 "_law_cell" 504
noncomputable def o163 : Obj := h6 "thing" 434
noncomputable def o178 : Obj := h6 "k" 190
noncomputable def o186 : Obj := h6 "self" 366
noncomputable def o192 : Obj := h6 "line" 266
noncomputable def o194 : Obj := h6 "names" 300
noncomputable def h7 (a0 : Nat) (a1 : Nat) (a2 : Int) (a3 : Nat) (a4 : Str) (a5 : Nat) (a6 : Nat) (a7 : Str) (a8 : Nat) (a9 : Nat) (a10 : Nat) (a11 : Nat) : Obj := ⟨(.type "dict"), none, (Data.dict #[en P "__module__" a0 (.str "treeright.errors" 194), en P "__firstlineno__" a1 (.int a2 a3), en P a4 a5 (.ref a6), en P a7 a8 (.ref a9), en P "__doc__" a10 .none] a11), #[]⟩
noncomputable def o16 : Obj := h7 P 203 207 5 206 "__static_attributes__" 208 29 "__weakref__" 210 32 211 3
noncomputable def o64 : Obj := h7 P 253 257 11 256 "__init__" 265 72 "__static_attributes__" 267 73 268 2
noncomputable def h8 (a0 : Str) (a1 : Nat) (a2 : Str) (a3 : Nat) (a4 : Str) (a5 : Nat) (a6 : Str) (a7 : Nat) (a8 : Str) (a9 : Nat) (a10 : Str) (a11 : Nat) (a12 : Str) (a13 : Nat) : Obj := ⟨(.type "tuple"), none, (Data.seq #[(.str a0 a1), (.str a2 a3), (.str a4 a5), (.str a6 a7), (.str a8 a9), (.str a10 a11), (.str a12 a13)] 0), #[]⟩
noncomputable def o17 : Obj := h8 "_law_source" 552 "_law_most" 553 "_law_way" 554 "_law_names_here" 555 "_law_ties" 556 "_law_k" 557 "_law_other" 558
noncomputable def o131 : Obj := h8 "line" 463 "number" 464 "houses" 465 "ties" 466 "word" 467 "names" 468 "tie" 469
noncomputable def o145 : Obj := h8 "text" 441 "first" 442 "others" 443 "houses" 444 "ties" 445 "number" 446 "line" 447
noncomputable def h9 (a0 : Nat) : Obj := ⟨(.type "super"), none, (Data.fields #[(.ref a0), (.ref a0), (.ref a0)]), #[]⟩
noncomputable def o18 : Obj := h9 189
noncomputable def o118 : Obj := h9 75
noncomputable def o155 : Obj := h9 56
noncomputable def o162 : Obj := h9 31
noncomputable def o190 : Obj := h9 44
noncomputable def h10 (a0 : Nat) (a1 : Nat) (a2 : Str) (a3 : Nat) : Obj := ⟨(.type "frame"), none, Data.plain, #[(some (.ref a0)), (some (.ref 3)), (some (.ref a1)), none, (some (.str a2 a3)), none, (some (.ref 0))]⟩
noncomputable def o20 : Obj := h10 64 61 "treeright.errors" 194
noncomputable def o47 : Obj := h10 13 3 "__main__" 164
noncomputable def o79 : Obj := h10 27 24 "treeright.errors" 194
noncomputable def o82 : Obj := h10 52 49 "treeright.errors" 194
noncomputable def o130 : Obj := h10 40 37 "treeright.errors" 194
noncomputable def o137 : Obj := h10 138 135 "treeright.trees" 271
noncomputable def h11 (a0 : Nat) : Obj := ⟨(.type "builtin_function_or_method"), none, (Data.fields #[(.builtin "object.__init_subclass__"), (.ref a0)]), #[]⟩
noncomputable def o21 : Obj := h11 31
noncomputable def o38 : Obj := h11 56
noncomputable def o103 : Obj := h11 189
noncomputable def o147 : Obj := h11 44
noncomputable def o168 : Obj := h11 75
noncomputable def o22 : Obj := ⟨.none, none, (Data.fields #[(.int 1 0), (.int 0 0), (.ref 20), (.int 5 0), (.int 0 0), (.ref 27), (.int 7 0), (.int 0 0), (.ref 40), (.int 9 0), (.int 0 0), (.ref 52), (.int 11 0), (.int 0 0), (.ref 64), (.int 19 0), (.int 0 0), (.ref 81), (.int 23 0), (.int 0 0), (.ref 88), (.int 25 0), (.int 0 0), (.ref 93), (.int 27 0), (.int 0 0), (.ref 100), (.int 29 0), (.int 0 0), (.ref 107), (.int 31 0), (.int 0 0), (.ref 114), (.int 36 0), (.int 0 0), (.ref 119), (.int 40 0), (.int 0 0), (.ref 124), (.int 46 0), (.int 0 0), (.ref 131)]), #[]⟩
noncomputable def o27 : Obj := ⟨(.type "type"), none, (Data.cls ⟨"TreeError", [(.type "ValueError")], [(.ref 31), (.type "ValueError"), (.type "Exception"), (.type "BaseException"), (.type "object")], 30, "TreeError", true, [], [(.ref 44), (.ref 56), (.ref 75)], false, none, false⟩), #[(some (.ref 22)), none, (some (.str "TreeError" 196)), (some (.str "TreeError" 204)), (some (.builtin "ValueError.__new__")), (some (.bool true))]⟩
noncomputable def h12 (a0 : Nat) (a1 : Nat) : Obj := ⟨(.type "getset_descriptor"), none, (Data.fields #[(.str "__weakref__" a0), (.ref a1), (.builtin "ExceptionGroup.__weakref__"), .none]), #[]⟩
noncomputable def o29 : Obj := h12 418 189
noncomputable def o59 : Obj := h12 209 31
noncomputable def o31 : Obj := ⟨(.type "tuple"), none, (Data.seq #[(.ref 31)] 0), #[]⟩
noncomputable def o34 : Obj := ⟨(.type "dict"), none, (Data.dict #[en P "__name__" 165 (.str "treeright.trees" 271), en P "__doc__" 166 .none, en P "__package__" 167 .none, en P "__loader__" 168 (.builtin "__main__.__loader__#opaque"), en P "__spec__" 169 .none, en P "__annotations__" 170 (.ref 6), en P "__builtins__" 171 (.ref 4), en P "__file__" 173 (.str "/claim/cut.py" 172), en P "__cached__" 174 .none, en P "_wall" 193 (.ref 21), en P "TreeError" 213 (.ref 31), en P "NoTree" 229 (.ref 44), en P "NoHouse" 245 (.ref 56), en P "NoText" 270 (.ref 75), en P "LETTERS" 274 (.str "abcdefghijklmnopqrstuvwxyz" 273), en P "LONGEST_NAME" 276 (.int 8 275), en P "is_name" 282 (.ref 82), en P "is_one_of" 290 (.ref 89), en P "are_names" 296 (.ref 94), en P "are_unlike" 303 (.ref 101), en P "are_houses" 310 (.ref 108), en P "is_tie" 320 (.ref 115), en P "are_ties" 326 (.ref 120), en P "tied_to_each" 332 (.ref 125), en P "steps_toward" 344 (.ref 132), en P "Tree" 422 (.ref 189)] 26), #[]⟩
noncomputable def h13 (a0 : Str) (a1 : Nat) (a2 : Str) (a3 : Nat) (a4 : Str) (a5 : Nat) : Obj := ⟨(.type "tuple"), none, (Data.seq #[(.str a0 a1), (.str a2 a3), (.str a4 a5)] 0), #[]⟩
noncomputable def o40 : Obj := h13 "tie" 484 "houses" 485 "ties" 486
noncomputable def o61 : Obj := h13 "line" 454 "word" 455 "houses" 456
noncomputable def o62 : Obj := h13 "_law_source" 511 "_law_many" 512 "_law_found" 513
noncomputable def o114 : Obj := h13 "names" 412 "near" 413 "pairs" 414
noncomputable def o126 : Obj := h13 "_law_cell" 495 "_law_k" 496 "_law_number" 497
noncomputable def o41 : Obj := ⟨(.type "dict"), none, (Data.dict #[en P "__module__" 352 (.str "treeright.trees" 271), en P "__qualname__" 354 (.str "Tree" 353), en P "__firstlineno__" 356 (.int 56 355), en P "__init__" 362 (.ref 144), en P "houses" 369 (.ref 151), en P "ties" 376 (.ref 158), en P "neighbours" 384 (.ref 165), en P "road" 395 (.ref 172), en P "without" 403 (.ref 179), en P "check_house" 411 (.ref 186), en P "__static_attributes__" 415 (.ref 187)] 11), #[]⟩
noncomputable def h14 (a0 : Str) (a1 : Nat) (a2 : Nat) (a3 : Nat) (a4 : Int) (a5 : Nat) (a6 : Nat) (a7 : Int) (a8 : Nat) : Obj := ⟨(.type "code"), none, (Data.fields #[(.str a0 a1), (.str a0 a2), (.str "/claim/cut.py" a3), (.int a4 0), (.int 0 0), (.int 0 0), (.int 0 0), (.int 0 0), (.ref a5), (.bool false), (.int 181 0), (.ref a6), .none, .none, .none, .none, (.int a7 0), (.int a4 0), (.str "/claim/cut.py" a8)]), #[]⟩
noncomputable def o42 : Obj := h14 "Tree" 347 348 349 56 136 137 350 351
noncomputable def o65 : Obj := h14 "NoHouse" 232 233 234 9 50 51 235 236
noncomputable def o83 : Obj := h14 "NoTree" 216 217 218 7 38 39 219 220
noncomputable def o90 : Obj := h14 "TreeError" 198 199 200 5 25 26 201 202
noncomputable def o101 : Obj := h14 "<module>" 182 183 184 1 11 12 185 186
noncomputable def o105 : Obj := h14 "NoText" 248 249 250 11 62 63 251 252
noncomputable def o50 : Obj := ⟨(.type "tuple"), none, (Data.seq #[(.type "ValueError")] 0), #[]⟩
noncomputable def o55 : Obj := ⟨(.type "dict"), none, (Data.dict #[en P "__name__" 165 (.str "treeright.trees" 271), en P "__doc__" 166 .none, en P "__package__" 167 .none, en P "__loader__" 168 (.builtin "__main__.__loader__#opaque"), en P "__spec__" 169 .none, en P "__annotations__" 170 (.ref 6), en P "__builtins__" 171 (.ref 4), en P "__file__" 173 (.str "/claim/cut.py" 172), en P "__cached__" 174 .none, en P "_wall" 193 (.ref 21), en P "TreeError" 213 (.ref 31), en P "NoTree" 229 (.ref 44), en P "NoHouse" 245 (.ref 56), en P "NoText" 270 (.ref 75), en P "LETTERS" 274 (.str "abcdefghijklmnopqrstuvwxyz" 273), en P "LONGEST_NAME" 276 (.int 8 275), en P "is_name" 282 (.ref 82), en P "is_one_of" 290 (.ref 89), en P "are_names" 296 (.ref 94), en P "are_unlike" 303 (.ref 101)] 20), #[]⟩
noncomputable def o60 : Obj := ⟨.none, none, (Data.fields #[(.int 1 0), (.int 0 0), (.ref 20), (.int 5 0), (.int 0 0), (.ref 27), (.int 7 0), (.int 0 0), (.ref 40), (.int 9 0), (.int 0 0), (.ref 52), (.int 11 0), (.int 0 0), (.ref 64), (.int 19 0), (.int 0 0), (.ref 81), (.int 23 0), (.int 0 0), (.ref 88), (.int 25 0), (.int 0 0), (.ref 93), (.int 27 0), (.int 0 0), (.ref 100), (.int 29 0), (.int 0 0), (.ref 107), (.int 31 0), (.int 0 0), (.ref 114), (.int 36 0), (.int 0 0), (.ref 119), (.int 40 0), (.int 0 0), (.ref 124), (.int 46 0), (.int 0 0), (.ref 131), (.int 56 0), (.int 0 0), (.ref 138)]), #[]⟩
noncomputable def h15 (a0 : Str) (a1 : Nat) (a2 : Str) (a3 : Nat) : Obj := ⟨(.type "tuple"), none, (Data.seq #[(.str a0 a1), (.str a2 a3)] 0), #[]⟩
noncomputable def o63 : Obj := h15 "self" 380 "house" 381
noncomputable def o108 : Obj := h15 "self" 407 "house" 408
noncomputable def o124 : Obj := h15 "thing" 286 "houses" 287
noncomputable def o134 : Obj := h15 "tie" 476 "ties" 477
noncomputable def o170 : Obj := h15 "self" 399 "house" 400
noncomputable def o176 : Obj := h15 "self" 261 "line" 262
noncomputable def o67 : Obj := ⟨(.type "builtin_function_or_method"), none, (Data.fields #[(.builtin "type.__prepare__"), (.type "type")]), #[]⟩
noncomputable def o72 : Obj := ⟨(.type "dict"), none, (Data.dict #[en P "__name__" 165 (.str "law_treeright_k81_trees_as_texts" 490), en P "__doc__" 166 .none, en P "__package__" 167 .none, en P "__loader__" 168 (.builtin "__main__.__loader__#opaque"), en P "__spec__" 169 .none, en P "__annotations__" 170 (.ref 6), en P "__builtins__" 171 (.ref 4), en P "__file__" 173 (.str "/claim/cut.py" 172), en P "__cached__" 174 .none, en P "_wall" 193 (.ref 21), en P "TreeError" 213 (.ref 31), en P "NoTree" 229 (.ref 44), en P "NoHouse" 245 (.ref 56), en P "NoText" 270 (.ref 75), en P "LETTERS" 274 (.str "abcdefghijklmnopqrstuvwxyz" 273), en P "LONGEST_NAME" 276 (.int 8 275), en P "is_name" 282 (.ref 82), en P "is_one_of" 290 (.ref 89), en P "are_names" 296 (.ref 94), en P "are_unlike" 303 (.ref 101), en P "are_houses" 310 (.ref 108), en P "is_tie" 320 (.ref 115), en P "are_ties" 326 (.ref 120), en P "tied_to_each" 332 (.ref 125), en P "steps_toward" 344 (.ref 132), en P "Tree" 422 (.ref 189), en P "show_tree" 430 (.ref 198), en P "check_text" 437 (.ref 205), en P "read_tree" 450 (.ref 212), en P "read_houses" 459 (.ref 219), en P "read_tie" 472 (.ref 226), en P "rises" 480 (.ref 233), en P "closes_ring" 489 (.ref 240), en P "_law_mixed" 500 (.ref 247), en P "_law_digits" 507 (.ref 254), en P "_law_next" 516 (.ref 261), en P "_law_word" 522 (.ref 266), en P "_law_names" 528 (.ref 271), en P "_law_turned" 538 (.ref 278), en P "_law_shuffled" 548 (.ref 285), en P "_law_tree" 561 (.ref 292), en P "_law_tree_text" 567 (.ref 297), en P "law" 573 (.ref 302)] 43), #[]⟩
noncomputable def o75 : Obj := ⟨(.type "dict"), none, (Data.dict #[en P "__name__" 165 (.str "treeright.errors" 194), en P "__doc__" 166 .none, en P "__package__" 167 .none, en P "__loader__" 168 (.builtin "__main__.__loader__#opaque"), en P "__spec__" 169 .none, en P "__annotations__" 170 (.ref 6), en P "__builtins__" 171 (.ref 4), en P "__file__" 173 (.str "/claim/cut.py" 172), en P "__cached__" 174 .none, en P "_wall" 193 (.ref 21), en P "TreeError" 213 (.ref 31)] 11), #[]⟩
noncomputable def o76 : Obj := ⟨(.type "tuple"), none, (Data.seq #[(.str "near" 336), (.str "goal" 337), (.str "steps" 338), (.str "fresh" 339), (.str "here" 340), (.str "other" 341)] 0), #[]⟩
noncomputable def o80 : Obj := ⟨.none, none, (Data.fields #[(.int 1 0), (.int 0 0), (.ref 20), (.int 5 0), (.int 0 0), (.ref 27), (.int 7 0), (.int 0 0), (.ref 40), (.int 9 0), (.int 0 0), (.ref 52), (.int 11 0), (.int 0 0), (.ref 64), (.int 19 0), (.int 0 0), (.ref 81), (.int 23 0), (.int 0 0), (.ref 88), (.int 25 0), (.int 0 0), (.ref 93), (.int 27 0), (.int 0 0), (.ref 100), (.int 29 0), (.int 0 0), (.ref 107), (.int 31 0), (.int 0 0), (.ref 114), (.int 36 0), (.int 0 0), (.ref 119), (.int 40 0), (.int 0 0), (.ref 124), (.int 46 0), (.int 0 0), (.ref 131), (.int 56 0), (.int 0 0), (.ref 138), (.int 94 0), (.int 0 0), (.ref 197), (.int 96 0), (.int 0 0), (.ref 204), (.int 99 0), (.int 0 0), (.ref 211), (.int 109 0), (.int 0 0), (.ref 218), (.int 114 0), (.int 0 0), (.ref 225), (.int 120 0), (.int 0 0), (.ref 232), (.int 122 0), (.int 0 0), (.ref 239), (.int 125 0), (.int 0 0), (.ref 246), (.int 130 0), (.int 0 0), (.ref 253), (.int 132 0), (.int 0 0), (.ref 260), (.int 139 0), (.int 0 0), (.ref 265), (.int 142 0), (.int 0 0), (.ref 270), (.int 154 0), (.int 0 0), (.ref 277), (.int 158 0), (.int 0 0), (.ref 284), (.int 164 0), (.int 0 0), (.ref 291), (.int 172 0), (.int 0 0), (.ref 296), (.int 177 0), (.int 0 0), (.ref 301)]), #[]⟩
noncomputable def o95 : Obj := ⟨(.type "dict"), none, (Data.dict #[en P "__name__" 165 (.str "treeright.trees" 271), en P "__doc__" 166 .none, en P "__package__" 167 .none, en P "__loader__" 168 (.builtin "__main__.__loader__#opaque"), en P "__spec__" 169 .none, en P "__annotations__" 170 (.ref 6), en P "__builtins__" 171 (.ref 4), en P "__file__" 173 (.str "/claim/cut.py" 172), en P "__cached__" 174 .none, en P "_wall" 193 (.ref 21), en P "TreeError" 213 (.ref 31), en P "NoTree" 229 (.ref 44), en P "NoHouse" 245 (.ref 56), en P "NoText" 270 (.ref 75), en P "LETTERS" 274 (.str "abcdefghijklmnopqrstuvwxyz" 273), en P "LONGEST_NAME" 276 (.int 8 275), en P "is_name" 282 (.ref 82), en P "is_one_of" 290 (.ref 89), en P "are_names" 296 (.ref 94), en P "are_unlike" 303 (.ref 101), en P "are_houses" 310 (.ref 108), en P "is_tie" 320 (.ref 115), en P "are_ties" 326 (.ref 120), en P "tied_to_each" 332 (.ref 125), en P "steps_toward" 344 (.ref 132)] 25), #[]⟩
noncomputable def o116 : Obj := ⟨(.type "dict"), none, (Data.dict #[en P "__name__" 165 (.str "treeright.errors" 194), en P "__doc__" 166 .none, en P "__package__" 167 .none, en P "__loader__" 168 (.builtin "__main__.__loader__#opaque"), en P "__spec__" 169 .none, en P "__annotations__" 170 (.ref 6), en P "__builtins__" 171 (.ref 4), en P "__file__" 173 (.str "/claim/cut.py" 172), en P "__cached__" 174 .none, en P "_wall" 193 (.ref 21), en P "TreeError" 213 (.ref 31), en P "NoTree" 229 (.ref 44)] 12), #[]⟩
noncomputable def o120 : Obj := ⟨(.type "type"), none, (Data.cls ⟨"TreeError", [(.type "ValueError")], [(.ref 31), (.type "ValueError"), (.type "Exception"), (.type "BaseException"), (.type "object")], 30, "TreeError", true, [], [(.ref 44), (.ref 56)], false, none, false⟩), #[(some (.ref 22)), none, (some (.str "TreeError" 196)), (some (.str "TreeError" 204)), (some (.builtin "ValueError.__new__")), (some (.bool true))]⟩
noncomputable def o121 : Obj := ⟨(.type "getset_descriptor"), none, (Data.fields #[(.str "__dict__" 416), (.ref 189), (.builtin "function.__dict__"), (.builtin "function.__dict__#set")]), #[]⟩
noncomputable def o122 : Obj := ⟨.none, none, (Data.fields #[(.int 13 0), (.int 4 0), (.ref 71)]), #[]⟩
noncomputable def o123 : Obj := ⟨(.type "type"), none, (Data.cls ⟨"Tree", [(.type "object")], [(.ref 189), (.type "object")], 188, "Tree", true, [], [], false, none, false⟩), #[none, none, (some (.str "Tree" 345)), (some (.str "Tree" 353)), (some (.builtin "object.__new__")), (some (.bool true))]⟩
noncomputable def h16 (a0 : Nat) (a1 : Nat) (a2 : Str) (a3 : Nat) (a4 : Nat) (a5 : Int) (a6 : Nat) (a7 : Nat) (a8 : Nat) : Obj := ⟨(.type "dict"), none, (Data.dict #[en P "__module__" a0 (.str "treeright.errors" 194), en P "__qualname__" a1 (.str a2 a3), en P "__firstlineno__" a4 (.int a5 a6), en P "__static_attributes__" a7 (.ref a8)] 4), #[]⟩
noncomputable def o133 : Obj := h16 P 237 239 "NoHouse" 238 241 9 240 242 54
noncomputable def o146 : Obj := h16 P 221 223 "NoTree" 222 225 7 224 226 42
noncomputable def o180 : Obj := h16 P 203 205 "TreeError" 204 207 5 206 208 29
noncomputable def o135 : Obj := ⟨.none, none, (Data.fields #[(.int 1 0), (.int 0 0), (.ref 20), (.int 5 0), (.int 0 0), (.ref 27), (.int 7 0), (.int 0 0), (.ref 40), (.int 9 0), (.int 0 0), (.ref 52), (.int 11 0), (.int 0 0), (.ref 64), (.int 19 0), (.int 0 0), (.ref 81), (.int 23 0), (.int 0 0), (.ref 88), (.int 25 0), (.int 0 0), (.ref 93), (.int 27 0), (.int 0 0), (.ref 100)]), #[]⟩
noncomputable def o139 : Obj := ⟨(.type "tuple"), none, (Data.seq #[(.str "self" 388), (.str "one" 389), (.str "other" 390), (.str "steps" 391), (.str "passed" 392)] 0), #[]⟩
noncomputable def o142 : Obj := ⟨(.type "type"), none, (Data.cls ⟨"TreeError", [(.type "ValueError")], [(.ref 31), (.type "ValueError"), (.type "Exception"), (.type "BaseException"), (.type "object")], 30, "TreeError", true, [], [(.ref 44)], false, none, false⟩), #[(some (.ref 22)), none, (some (.str "TreeError" 196)), (some (.str "TreeError" 204)), (some (.builtin "ValueError.__new__")), (some (.bool true))]⟩
noncomputable def o148 : Obj := ⟨(.type "dict"), none, (Data.dict #[en P "__module__" 352 (.str "treeright.trees" 271), en P "__firstlineno__" 356 (.int 56 355), en P "__init__" 362 (.ref 144), en P "houses" 369 (.ref 151), en P "ties" 376 (.ref 158), en P "neighbours" 384 (.ref 165), en P "road" 395 (.ref 172), en P "without" 403 (.ref 179), en P "check_house" 411 (.ref 186), en P "__static_attributes__" 415 (.ref 187), en P "__dict__" 417 (.ref 190), en P "__weakref__" 419 (.ref 191), en P "__doc__" 420 .none] 4), #[]⟩
noncomputable def o149 : Obj := ⟨(.type "dict"), none, (Data.dict #[en P "__module__" 253 (.str "treeright.errors" 194), en P "__qualname__" 255 (.str "NoText" 254), en P "__firstlineno__" 257 (.int 11 256), en P "__init__" 265 (.ref 72), en P "__static_attributes__" 267 (.ref 73)] 5), #[]⟩
noncomputable def o166 : Obj := ⟨.none, none, (Data.fields #[(.int 1 0), (.int 0 0), (.ref 20), (.int 5 0), (.int 0 0), (.ref 27), (.int 7 0), (.int 0 0), (.ref 40), (.int 9 0), (.int 0 0), (.ref 52)]), #[]⟩
noncomputable def h17 (a0 : Nat) (a1 : Nat) (a2 : Int) (a3 : Nat) (a4 : Nat) (a5 : Nat) (a6 : Nat) : Obj := ⟨(.type "dict"), none, (Data.dict #[en P "__module__" a0 (.str "treeright.errors" 194), en P "__firstlineno__" a1 (.int a2 a3), en P "__static_attributes__" a4 (.ref a5), en P "__doc__" a6 .none] 2), #[]⟩
noncomputable def o169 : Obj := h17 P 237 241 9 240 242 54 243
noncomputable def o183 : Obj := h17 P 221 225 7 224 226 42 227
noncomputable def o172 : Obj := ⟨(.type "type"), none, (Data.cls ⟨"TreeError", [(.type "ValueError")], [(.ref 31), (.type "ValueError"), (.type "Exception"), (.type "BaseException"), (.type "object")], 30, "TreeError", true, [], [], false, none, false⟩), #[(some (.ref 22)), none, (some (.str "TreeError" 196)), (some (.str "TreeError" 204)), (some (.builtin "ValueError.__new__")), (some (.bool true))]⟩
noncomputable def o177 : Obj := ⟨(.type "dict"), none, (Data.dict #[en P "__name__" 165 (.str "treeright.errors" 194), en P "__doc__" 166 .none, en P "__package__" 167 .none, en P "__loader__" 168 (.builtin "__main__.__loader__#opaque"), en P "__spec__" 169 .none, en P "__annotations__" 170 (.ref 6), en P "__builtins__" 171 (.ref 4), en P "__file__" 173 (.str "/claim/cut.py" 172), en P "__cached__" 174 .none, en P "_wall" 193 (.ref 21), en P "TreeError" 213 (.ref 31), en P "NoTree" 229 (.ref 44), en P "NoHouse" 245 (.ref 56)] 13), #[]⟩
noncomputable def o179 : Obj := ⟨.none, none, (Data.fields #[(.int 1 0), (.int 0 0), (.ref 20), (.int 5 0), (.int 0 0), (.ref 27), (.int 7 0), (.int 0 0), (.ref 40), (.int 9 0), (.int 0 0), (.ref 52), (.int 11 0), (.int 0 0), (.ref 64), (.int 19 0), (.int 0 0), (.ref 81), (.int 23 0), (.int 0 0), (.ref 88), (.int 25 0), (.int 0 0), (.ref 93), (.int 27 0), (.int 0 0), (.ref 100), (.int 29 0), (.int 0 0), (.ref 107), (.int 31 0), (.int 0 0), (.ref 114), (.int 36 0), (.int 0 0), (.ref 119), (.int 40 0), (.int 0 0), (.ref 124), (.int 46 0), (.int 0 0), (.ref 131), (.int 56 0), (.int 0 0), (.ref 138), (.int 94 0), (.int 0 0), (.ref 197), (.int 96 0), (.int 0 0), (.ref 204), (.int 99 0), (.int 0 0), (.ref 211), (.int 109 0), (.int 0 0), (.ref 218), (.int 114 0), (.int 0 0), (.ref 225), (.int 120 0), (.int 0 0), (.ref 232), (.int 122 0), (.int 0 0), (.ref 239), (.int 125 0), (.int 0 0), (.ref 246), (.int 130 0), (.int 0 0), (.ref 253), (.int 132 0), (.int 0 0), (.ref 260), (.int 139 0), (.int 0 0), (.ref 265), (.int 142 0), (.int 0 0), (.ref 270)]), #[]⟩
noncomputable def o189 : Obj := ⟨.none, none, (Data.fields #[(.int 58 0), (.int 4 0), (.ref 143), (.int 69 0), (.int 4 0), (.ref 150), (.int 72 0), (.int 4 0), (.ref 157), (.int 75 0), (.int 4 0), (.ref 164), (.int 78 0), (.int 4 0), (.ref 171), (.int 87 0), (.int 4 0), (.ref 178), (.int 90 0), (.int 4 0), (.ref 185)]), #[]⟩
noncomputable def q0 : BT := N o1 (N o27 (N o122 (N o0 (N o1 L L) L) (N o29 L L)) (N o1 (N o1 L L) (N o1 L L))) (N o31 (N o0 (N o106 (N o84 L L) L) (N o0 L L)) (N o9 (N o170 L L) (N o13 L L)))
noncomputable def q1 : BT := N o67 (N o0 (N o100 (N (o41 P) (N o0 L L) L) (N o1 L L)) (N o0 (N o0 L L) (N o37 L L))) (N (o169 P) (N o151 (N o36 L L) (N o61 L L)) (N o14 (N o1 L L) (N o187 L L)))
noncomputable def q2 : BT := N o197 (N o31 (N o0 (N o25 (N o125 L L) L) (N o0 L L)) (N o99 (N o94 L L) (N o1 L L))) (N o0 (N o1 (N o186 L L) (N o165 L L)) (N o184 (N o98 L L) (N o126 L L)))
noncomputable def q3 : BT := N o90 (N (o183 P) (N o128 (N o137 (N o1 L L) L) (N o191 L L)) (N o143 (N o97 L L) (N o0 L L))) (N o31 (N o0 (N o1 L L) (N o173 L L)) (N o33 (N o114 L L) (N o1 L L)))
noncomputable def q4 : BT := N o178 (N o162 (N o20 (N o1 (N o62 L L) L) (N o103 L L)) (N o194 (N o63 L L) (N o3 L L))) (N (o133 P) (N o77 (N o1 L L) (N o1 L L)) (N o193 (N o44 L L) (N o1 L L)))
noncomputable def q5 : BT := N o1 (N o130 (N o192 (N o189 (N o140 L L) L) (N o163 L L)) (N o1 (N o1 L L) (N o71 L L))) (N o155 (N o66 (N o0 L L) (N o87 L L)) (N o1 (N o57 L L) (N o0 L L)))
noncomputable def q6 : BT := N o167 (N (o146 P) (N o1 (N o1 (N o24 L L) L) (N o117 L L)) (N o196 (N o182 L L) (N o134 L L))) (N o82 (N o124 (N o23 L L) (N o1 L L)) (N o0 (N o0 L L) (N o26 L L)))
noncomputable def q7 : BT := N o1 (N o190 (N o168 (N o0 (N o171 L L) L) (N o81 L L)) (N o1 (N o1 L L) (N o1 L L))) (N (o149 P) (N o28 (N o58 L L) (N o0 L L)) (N o53 (N o123 L L) (N o52 L L)))
noncomputable def q8 : BT := N (boot_o_1 P) (N (o6 P) (N (boot_o_7 P) q0 (q1 P)) (N o1 q2 (q3 P))) (N (boot_o_5 P) (N (boot_o_9 P) (q4 P) q5) (N o101 (q6 P) (q7 P)))
noncomputable def q9 : BT := N o0 (N o59 (N o105 (N o76 (N o0 L L) L) (N o18 L L)) (N o0 (N o0 L L) (N o132 L L))) (N o67 (N o96 (N o138 L L) (N o145 L L)) (N o1 (N o1 L L) (N o92 L L)))
noncomputable def q10 : BT := N (o180 P) (N o83 (N o54 (N o1 (N o91 L L) L) (N o0 L L)) (N o15 (N o139 L L) (N o85 L L))) (N o174 (N o56 (N o1 L L) (N o1 L L)) (N o141 (N o159 L L) (N o1 L L)))
noncomputable def q11 : BT := N o102 (N o67 (N o176 (N o45 (N o160 L L) L) (N o30 L L)) (N o154 (N o7 L L) (N o0 L L))) (N o65 (N o0 (N o1 L L) (N o188 L L)) (N o1 (N o1 L L) (N o1 L L)))
noncomputable def q12 : BT := N o79 (N o10 (N o118 (N o1 (N o0 L L) L) (N o119 L L)) (N o110 (N o88 L L) (N o40 L L))) (N o67 (N o107 (N o111 L L) (N o1 L L)) (N o181 (N (o148 P) L L) (N o39 L L)))
noncomputable def q13 : BT := N o1 (N o21 (N o1 (N o150 (N o1 L L) L) (N o1 L L)) (N o1 (N o1 L L) (N o127 L L))) (N o1 (N o69 (N o0 L L) (N o115 L L)) (N o136 (N o156 L L) (N o0 L L)))
noncomputable def q14 : BT := N o0 (N o1 (N (o64 P) (N o42 (N o49 L L) L) (N o1 L L)) (N o68 (N o185 L L) (N o1 L L))) (N o38 (N o1 (N o51 L L) (N o19 L L)) (N o0 (N o157 L L) (N o161 L L)))
noncomputable def q15 : BT := N o50 (N o1 (N o153 (N o67 (N o1 L L) L) (N o89 L L)) (N o1 (N o1 L L) (N o1 L L))) (N o1 (N o1 (N o195 L L) (N o0 L L)) (N o86 (N o108 L L) (N o35 L L)))
noncomputable def q16 : BT := N (o16 P) (N o147 (N o1 (N o112 (N o175 L L) L) (N o1 L L)) (N o0 (N o0 L L) (N o46 L L))) (N o1 (N o144 (N o113 L L) (N o131 L L)) (N o1 (N o121 L L) (N o11 L L)))
noncomputable def q17 : BT := N (boot_o_2 P) (N (boot_o_4 P) (N (boot_o_8 P) q9 (q10 P)) (N o179 q11 (q12 P))) (N (boot_o_6 P) (N (boot_o_10 P) q13 (q14 P)) (N o47 q15 (q16 P)))
noncomputable def t322 (P : Params) : BT := (N (boot_o_0 P) (q8 P) (q17 P))
noncomputable def q18 : BT := N (o116 P) (N (boot_o_7 P) (N o1 (N o142 L L) L) (N o67 (N o0 L L) L)) (N o1 (N o197 (N o31 L L) L) (N o90 (N (o183 P) L L) L))
noncomputable def q19 : BT := N (boot_o_5 P) (N (boot_o_9 P) (N o178 (N o162 L L) L) (N o1 (N o130 L L) L)) (N o101 (N o167 (N (o146 P) L L) L) (N o1 (N o190 L L) L))
noncomputable def q20 : BT := N (boot_o_4 P) (N (boot_o_8 P) (N o0 (N o59 L L) L) (N (o180 P) (N o83 L L) L)) (N o4 (N o102 (N o67 L L) L) (N o79 (N o10 L L) L))
noncomputable def q21 : BT := N (boot_o_6 P) (N (boot_o_10 P) (N o1 (N o21 L L) L) (N o0 (N o1 L L) L)) (N o47 (N o50 (N o1 L L) L) (N (o16 P) (N o147 L L) L))
noncomputable def t85 (P : Params) : BT := (N (boot_o_0 P) (N (boot_o_1 P) (q18 P) (q19 P)) (N (boot_o_2 P) (q20 P) (q21 P)))
noncomputable def q22 : BT := N o1 (N o27 (N o122 (N o0 L L) (N o29 L L)) (N o1 (N o1 L L) L)) (N o31 (N o0 (N o106 L L) L) (N o9 (N o170 L L) L))
noncomputable def q23 : BT := N o67 (N o0 (N o100 (N (o41 P) L L) L) (N o0 (N o0 L L) L)) (N (o169 P) (N o151 (N o36 L L) L) (N o14 (N o1 L L) L))
noncomputable def q24 : BT := N o197 (N o31 (N o0 (N o25 L L) L) (N o99 (N o94 L L) L)) (N o0 (N o1 (N o186 L L) L) (N o184 (N o98 L L) L))
noncomputable def q25 : BT := N o90 (N (o183 P) (N o128 (N o137 L L) L) (N o143 (N o97 L L) L)) (N o31 (N o0 (N o1 L L) L) (N o33 (N o114 L L) L))
noncomputable def q26 : BT := N o178 (N o162 (N o20 (N o1 L L) (N o103 L L)) (N o194 (N o63 L L) L)) (N (o133 P) (N o77 (N o1 L L) L) (N o193 (N o44 L L) L))
noncomputable def q27 : BT := N o1 (N o130 (N o192 (N o189 L L) L) (N o1 (N o1 L L) L)) (N o155 (N o66 (N o0 L L) L) (N o1 (N o57 L L) L))
noncomputable def q28 : BT := N o167 (N (o146 P) (N o1 (N o1 L L) L) (N o196 (N o182 L L) L)) (N o82 (N o124 (N o23 L L) L) (N o0 (N o0 L L) L))
noncomputable def q29 : BT := N o1 (N o190 (N o168 (N o0 L L) L) (N o1 (N o1 L L) L)) (N (o149 P) (N o28 (N o58 L L) L) (N o53 (N o123 L L) L))
noncomputable def q30 : BT := N (boot_o_1 P) (N (o34 P) (N (boot_o_7 P) q22 (q23 P)) (N o1 q24 (q25 P))) (N (boot_o_5 P) (N (boot_o_9 P) (q26 P) q27) (N o101 (q28 P) (q29 P)))
noncomputable def q31 : BT := N o0 (N o59 (N o105 (N o76 L L) (N o18 L L)) (N o0 (N o0 L L) L)) (N o67 (N o96 (N o138 L L) L) (N o1 (N o1 L L) L))
noncomputable def q32 : BT := N (o180 P) (N o83 (N o54 (N o1 L L) L) (N o15 (N o139 L L) L)) (N o174 (N o56 (N o1 L L) L) (N o141 (N o159 L L) L))
noncomputable def q33 : BT := N o102 (N o67 (N o176 (N o45 L L) L) (N o154 (N o7 L L) L)) (N o65 (N o0 (N o1 L L) L) (N o1 (N o1 L L) L))
noncomputable def q34 : BT := N o79 (N o10 (N o118 (N o1 L L) L) (N o110 (N o88 L L) L)) (N o67 (N o107 (N o111 L L) L) (N o181 (N (o148 P) L L) L))
noncomputable def q35 : BT := N o1 (N o21 (N o1 (N o150 L L) L) (N o1 (N o1 L L) L)) (N o1 (N o69 (N o0 L L) L) (N o136 (N o156 L L) L))
noncomputable def q36 : BT := N o0 (N o1 (N (o64 P) (N o42 L L) L) (N o68 (N o185 L L) L)) (N o38 (N o1 (N o51 L L) L) (N o0 (N o157 L L) L))
noncomputable def q37 : BT := N o50 (N o1 (N o153 (N o67 L L) L) (N o1 (N o1 L L) L)) (N o1 (N o1 (N o195 L L) L) (N o86 (N o108 L L) L))
noncomputable def q38 : BT := N (o16 P) (N o147 (N o1 (N o112 L L) L) (N o0 (N o0 L L) L)) (N o1 (N o144 (N o113 L L) L) (N o1 (N o121 L L) L))
noncomputable def q39 : BT := N (boot_o_2 P) (N (boot_o_4 P) (N (boot_o_8 P) q31 (q32 P)) (N o60 q33 (q34 P))) (N (boot_o_6 P) (N (boot_o_10 P) q35 (q36 P)) (N o47 q37 (q38 P)))
noncomputable def t242 (P : Params) : BT := (N (boot_o_0 P) (q30 P) (q39 P))
noncomputable def e356_0 (P : Params) (t : List Obj) : List Obj := (boot_o_0 P) :: (boot_o_1 P) :: (boot_o_2 P) :: (o72 P) :: (boot_o_4 P) :: (boot_o_5 P) :: (boot_o_6 P) :: (boot_o_7 P) :: (boot_o_8 P) :: (boot_o_9 P) :: (boot_o_10 P) :: o1 :: o80 :: o101 :: o47 :: t
noncomputable def e356_1 (P : Params) (t : List Obj) : List Obj := o1 :: o0 :: o178 :: o1 :: o197 :: o102 :: o167 :: o50 :: o67 :: (o180 P) :: o1 :: o0 :: o90 :: o79 :: o1 :: t
noncomputable def e356_2 (P : Params) (t : List Obj) : List Obj := (o16 P) :: o27 :: o59 :: o162 :: o21 :: o31 :: o67 :: (o146 P) :: o1 :: o0 :: o83 :: o130 :: o1 :: (o183 P) :: o10 :: t
noncomputable def e356_3 (P : Params) (t : List Obj) : List Obj := o190 :: o147 :: o31 :: o67 :: (o133 P) :: o1 :: o0 :: o65 :: o82 :: o1 :: (o169 P) :: o174 :: o155 :: o38 :: o31 :: t
noncomputable def e356_4 (P : Params) (t : List Obj) : List Obj := o67 :: (o149 P) :: o1 :: o122 :: o105 :: o20 :: o1 :: o0 :: o176 :: o1 :: o153 :: o100 :: o54 :: o192 :: (o64 P) :: t
noncomputable def e356_5 (P : Params) (t : List Obj) : List Obj := o128 :: o118 :: o168 :: o1 :: o0 :: o96 :: o77 :: o69 :: o1 :: o0 :: o124 :: o1 :: o151 :: o56 :: o66 :: t
noncomputable def e356_6 (P : Params) (t : List Obj) : List Obj := o1 :: o0 :: o107 :: o28 :: o144 :: o1 :: o0 :: o194 :: o1 :: o99 :: o154 :: o196 :: o1 :: o0 :: o15 :: t
noncomputable def e356_7 (P : Params) (t : List Obj) : List Obj := o1 :: o68 :: o143 :: o110 :: o1 :: o0 :: o9 :: o1 :: o193 :: o136 :: o184 :: o1 :: o0 :: o86 :: o14 :: t
noncomputable def e356_8 (P : Params) (t : List Obj) : List Obj := o141 :: o1 :: o0 :: o33 :: o181 :: o53 :: o1 :: o0 :: o76 :: o1 :: o150 :: o25 :: o45 :: o1 :: o67 :: t
noncomputable def e356_9 (P : Params) (t : List Obj) : List Obj := (o41 P) :: o1 :: o189 :: o42 :: o137 :: o1 :: o0 :: o112 :: o106 :: o138 :: o1 :: o0 :: o186 :: o1 :: o23 :: t
noncomputable def e356_10 (P : Params) (t : List Obj) : List Obj := o195 :: o36 :: o1 :: o0 :: o51 :: o1 :: o111 :: o58 :: o113 :: o1 :: o0 :: o63 :: o1 :: o94 :: o7 :: t
noncomputable def e356_11 (P : Params) (t : List Obj) : List Obj := o182 :: o1 :: o0 :: o139 :: o1 :: o185 :: o97 :: o88 :: o1 :: o0 :: o170 :: o1 :: o44 :: o156 :: o98 :: t
noncomputable def e356_12 (P : Params) (t : List Obj) : List Obj := o1 :: o0 :: o108 :: o1 :: o159 :: o57 :: o157 :: o114 :: (o148 P) :: o123 :: o121 :: o29 :: o18 :: o103 :: o1 :: t
noncomputable def e356_13 (P : Params) (t : List Obj) : List Obj := o0 :: o30 :: o117 :: o89 :: o1 :: o0 :: o163 :: o1 :: o191 :: o119 :: o81 :: o1 :: o0 :: o145 :: o1 :: t
noncomputable def e356_14 (P : Params) (t : List Obj) : List Obj := o115 :: o165 :: o188 :: o1 :: o0 :: o61 :: o1 :: o87 :: o19 :: o173 :: o1 :: o0 :: o131 :: o1 :: o132 :: t
noncomputable def e356_15 (P : Params) (t : List Obj) : List Obj := o3 :: o127 :: o1 :: o0 :: o134 :: o1 :: o37 :: o85 :: o71 :: o1 :: o0 :: o40 :: o1 :: o46 :: o13 :: t
noncomputable def e356_16 (P : Params) (t : List Obj) : List Obj := o92 :: o1 :: o0 :: o126 :: o1 :: o26 :: o35 :: o187 :: o1 :: o0 :: o161 :: o1 :: o39 :: o52 :: o11 :: t
noncomputable def e356_17 (P : Params) (t : List Obj) : List Obj := o1 :: o0 :: o62 :: o1 :: o125 :: o160 :: o24 :: o1 :: o0 :: o91 :: o140 :: o49 :: o1 :: o0 :: o171 :: t
noncomputable def e356_18 (P : Params) (t : List Obj) : List Obj := o175 :: o84 :: o1 :: o0 :: o32 :: o1 :: o164 :: o152 :: o43 :: o1 :: o0 :: o109 :: o1 :: o5 :: o93 :: t
noncomputable def e356_19 (P : Params) (t : List Obj) : List Obj := o48 :: o1 :: o0 :: o17 :: o1 :: o12 :: o78 :: o129 :: o1 :: o0 :: o104 :: o74 :: o73 :: o1 :: o0 :: t
noncomputable def e356_20 (P : Params) (t : List Obj) : List Obj := o158 :: o2 :: o70 :: t
noncomputable def e356 (P : Params) : Heap := ⟨⟨(e356_0 P (e356_1 P (e356_2 P (e356_3 P (e356_4 P (e356_5 P (e356_6 P (e356_7 P (e356_8 P (e356_9 P (e356_10 P (e356_11 P (e356_12 P (e356_13 P (e356_14 P (e356_15 P (e356_16 P (e356_17 P (e356_18 P (e356_19 P (e356_20 P [])))))))))))))))))))))⟩, ⟨[], [], [], 0, [], [], false, #[], [], 0, false, false, false, 0, [2000, 10, 10], false, 0, true, [], [], 0, false⟩⟩
noncomputable def q40 : BT := N (boot_o_7 P) (N o1 (N o27 (N o122 (N o0 L L) L) (N o1 L L)) (N o31 (N o0 L L) (N o9 L L))) (N o67 (N o0 (N o100 L L) (N o0 L L)) (N (o169 P) (N o151 L L) (N o14 L L)))
noncomputable def q41 : BT := N o1 (N o197 (N o31 (N o0 (N o25 L L) L) (N o99 L L)) (N o0 (N o1 L L) (N o184 L L))) (N o90 (N (o183 P) (N o128 L L) (N o143 L L)) (N o31 (N o0 L L) (N o33 L L)))
noncomputable def q42 : BT := N (boot_o_9 P) (N o178 (N o162 (N o20 (N o1 L L) L) (N o194 L L)) (N (o133 P) (N o77 L L) (N o193 L L))) (N o1 (N o130 (N o192 L L) (N o1 L L)) (N o155 (N o66 L L) (N o1 L L)))
noncomputable def q43 : BT := N o101 (N o167 (N (o146 P) (N o1 L L) (N o196 L L)) (N o82 (N o124 L L) (N o0 L L))) (N o1 (N o190 (N o168 L L) (N o1 L L)) (N (o149 P) (N o28 L L) (N o53 L L)))
noncomputable def q44 : BT := N (boot_o_8 P) (N o0 (N o59 (N o105 (N o76 L L) L) (N o0 L L)) (N o67 (N o96 L L) (N o1 L L))) (N (o180 P) (N o83 (N o54 L L) (N o15 L L)) (N o174 (N o56 L L) (N o141 L L)))
noncomputable def q45 : BT := N o22 (N o102 (N o67 (N o176 (N o45 L L) L) (N o154 L L)) (N o65 (N o0 L L) (N o1 L L))) (N o79 (N o10 (N o118 L L) (N o110 L L)) (N o67 (N o107 L L) (N o181 L L)))
noncomputable def q46 : BT := N (boot_o_10 P) (N o1 (N o21 (N o1 (N o150 L L) L) (N o1 L L)) (N o1 (N o69 L L) (N o136 L L))) (N o0 (N o1 (N (o64 P) L L) (N o68 L L)) (N o38 (N o1 L L) (N o0 L L)))
noncomputable def q47 : BT := N o47 (N o50 (N o1 (N o153 L L) (N o1 L L)) (N o1 (N o1 L L) (N o86 L L))) (N (o16 P) (N o147 (N o1 L L) (N o0 L L)) (N o1 (N o144 L L) (N o1 L L)))
noncomputable def q48 : BT := N (boot_o_0 P) (N (boot_o_1 P) (N (o95 P) (q40 P) (q41 P)) (N (boot_o_5 P) (q42 P) (q43 P))) (N (boot_o_2 P) (N (boot_o_4 P) (q44 P) q45) (N (boot_o_6 P) (q46 P) (q47 P)))
noncomputable def t179 (P : Params) : BT := (q48 P)
noncomputable def q49 : BT := N (o177 P) (N (boot_o_7 P) (N o1 (N o120 L L) (N o31 L L)) (N o67 (N o0 L L) (N (o169 P) L L))) (N o1 (N o197 (N o31 L L) (N o0 L L)) (N o90 (N (o183 P) L L) L))
noncomputable def q50 : BT := N (boot_o_5 P) (N (boot_o_9 P) (N o178 (N o162 L L) (N (o133 P) L L)) (N o1 (N o130 L L) (N o155 L L))) (N o101 (N o167 (N (o146 P) L L) (N o82 L L)) (N o1 (N o190 L L) L))
noncomputable def q51 : BT := N (boot_o_4 P) (N (boot_o_8 P) (N o0 (N o59 L L) (N o67 L L)) (N (o180 P) (N o83 L L) (N o174 L L))) (N o166 (N o102 (N o67 L L) (N o65 L L)) (N o79 (N o10 L L) L))
noncomputable def q52 : BT := N (boot_o_6 P) (N (boot_o_10 P) (N o1 (N o21 L L) (N o1 L L)) (N o0 (N o1 L L) (N o38 L L))) (N o47 (N o50 (N o1 L L) (N o1 L L)) (N (o16 P) (N o147 L L) L))
noncomputable def t100 (P : Params) : BT := (N (boot_o_0 P) (N (boot_o_1 P) (q49 P) (q50 P)) (N (boot_o_2 P) (q51 P) (q52 P)))
noncomputable def e46_0 (P : Params) (t : List Obj) : List Obj := (boot_o_0 P) :: (boot_o_1 P) :: (boot_o_2 P) :: (boot_o_3 P) :: (boot_o_4 P) :: (boot_o_5 P) :: (boot_o_6 P) :: (boot_o_7 P) :: (boot_o_8 P) :: (boot_o_9 P) :: (boot_o_10 P) :: o1 :: o0 :: o101 :: o47 :: t
noncomputable def e46 (P : Params) : Heap := ⟨⟨(e46_0 P [])⟩, ⟨[], [], [], 0, [], [], false, #[], [], 0, false, false, false, 0, [2000, 10, 10], false, 0, true, [], [], 0, false⟩⟩
noncomputable def q53 : BT := N o1 (N o27 (N o122 (N o0 (N o1 L L) L) (N o29 L L)) (N o1 (N o1 (N o0 L L) L) (N o1 L L))) (N o31 (N o0 (N o106 (N o84 L L) L) (N o0 L L)) (N o9 (N o170 L L) (N o13 L L)))
noncomputable def q54 : BT := N o67 (N o0 (N o100 (N (o41 P) (N o0 L L) L) (N o1 L L)) (N o0 (N o0 (N o104 L L) L) (N o37 L L))) (N (o169 P) (N o151 (N o36 (N o1 L L) L) (N o61 L L)) (N o14 (N o1 L L) (N o187 L L)))
noncomputable def q55 : BT := N o197 (N o31 (N o0 (N o25 (N o125 L L) L) (N o0 L L)) (N o99 (N o94 (N o78 L L) L) (N o1 L L))) (N o0 (N o1 (N o186 (N o1 L L) L) (N o165 L L)) (N o184 (N o98 L L) (N o126 L L)))
noncomputable def q56 : BT := N o90 (N (o183 P) (N o128 (N o137 (N o1 L L) L) (N o191 L L)) (N o143 (N o97 (N o0 L L) L) (N o0 L L))) (N o31 (N o0 (N o1 (N o5 L L) L) (N o173 L L)) (N o33 (N o114 L L) (N o1 L L)))
noncomputable def q57 : BT := N o178 (N o162 (N o20 (N o1 (N o62 L L) L) (N o103 L L)) (N o194 (N o63 (N o1 L L) L) (N o3 L L))) (N (o133 P) (N o77 (N o1 (N o0 L L) L) (N o1 L L)) (N o193 (N o44 L L) (N o1 L L)))
noncomputable def q58 : BT := N o1 (N o130 (N o192 (N o189 (N o140 L L) L) (N o163 L L)) (N o1 (N o1 (N o73 L L) L) (N o71 L L))) (N o155 (N o66 (N o0 (N o109 L L) L) (N o87 L L)) (N o1 (N o57 L L) (N o0 L L)))
noncomputable def q59 : BT := N o167 (N (o146 P) (N o1 (N o1 (N o24 L L) L) (N o117 L L)) (N o196 (N o182 (N o1 L L) L) (N o134 L L))) (N o82 (N o124 (N o23 (N o152 L L) L) (N o1 L L)) (N o0 (N o0 L L) (N o26 L L)))
noncomputable def q60 : BT := N o1 (N o190 (N o168 (N o0 (N o171 L L) L) (N o81 L L)) (N o1 (N o1 (N o2 L L) L) (N o1 L L))) (N (o149 P) (N o28 (N o58 (N o48 L L) L) (N o0 L L)) (N o53 (N o123 L L) (N o52 L L)))
noncomputable def q61 : BT := N (boot_o_1 P) (N (o72 P) (N (boot_o_7 P) q53 (q54 P)) (N o1 q55 (q56 P))) (N (boot_o_5 P) (N (boot_o_9 P) (q57 P) q58) (N o101 (q59 P) (q60 P)))
noncomputable def q62 : BT := N o0 (N o59 (N o105 (N o76 (N o0 L L) L) (N o18 L L)) (N o0 (N o0 (N o17 L L) L) (N o132 L L))) (N o67 (N o96 (N o138 (N o1 L L) L) (N o145 L L)) (N o1 (N o1 L L) (N o92 L L)))
noncomputable def q63 : BT := N (o180 P) (N o83 (N o54 (N o1 (N o91 L L) L) (N o0 L L)) (N o15 (N o139 (N o74 L L) L) (N o85 L L))) (N o174 (N o56 (N o1 (N o0 L L) L) (N o1 L L)) (N o141 (N o159 L L) (N o1 L L)))
noncomputable def q64 : BT := N o102 (N o67 (N o176 (N o45 (N o160 L L) L) (N o30 L L)) (N o154 (N o7 (N o129 L L) L) (N o0 L L))) (N o65 (N o0 (N o1 (N o164 L L) L) (N o188 L L)) (N o1 (N o1 L L) (N o1 L L)))
noncomputable def q65 : BT := N o79 (N o10 (N o118 (N o1 (N o0 L L) L) (N o119 L L)) (N o110 (N o88 (N o158 L L) L) (N o40 L L))) (N o67 (N o107 (N o111 (N o93 L L) L) (N o1 L L)) (N o181 (N (o148 P) L L) (N o39 L L)))
noncomputable def q66 : BT := N o1 (N o21 (N o1 (N o150 (N o1 L L) L) (N o1 L L)) (N o1 (N o1 (N o12 L L) L) (N o127 L L))) (N o1 (N o69 (N o0 (N o32 L L) L) (N o115 L L)) (N o136 (N o156 L L) (N o0 L L)))
noncomputable def q67 : BT := N o0 (N o1 (N (o64 P) (N o42 (N o49 L L) L) (N o1 L L)) (N o68 (N o185 (N o1 L L) L) (N o1 L L))) (N o38 (N o1 (N o51 (N o1 L L) L) (N o19 L L)) (N o0 (N o157 L L) (N o161 L L)))
noncomputable def q68 : BT := N o50 (N o1 (N o153 (N o67 (N o1 L L) L) (N o89 L L)) (N o1 (N o1 (N o0 L L) L) (N o1 L L))) (N o1 (N o1 (N o195 (N o43 L L) L) (N o0 L L)) (N o86 (N o108 L L) (N o35 L L)))
noncomputable def q69 : BT := N (o16 P) (N o147 (N o1 (N o112 (N o175 L L) L) (N o1 L L)) (N o0 (N o0 (N o70 L L) L) (N o46 L L))) (N o1 (N o144 (N o113 (N o1 L L) L) (N o131 L L)) (N o1 (N o121 L L) (N o11 L L)))
noncomputable def q70 : BT := N (boot_o_2 P) (N (boot_o_4 P) (N (boot_o_8 P) q62 (q63 P)) (N o80 q64 (q65 P))) (N (boot_o_6 P) (N (boot_o_10 P) q66 (q67 P)) (N o47 q68 (q69 P)))
noncomputable def t355 (P : Params) : BT := (N (boot_o_0 P) (q61 P) (q70 P))
noncomputable def q71 : BT := N (boot_o_7 P) (N o1 (N o27 (N o122 L L) (N o1 L L)) (N o31 (N o0 L L) L)) (N o67 (N o0 (N o100 L L) L) (N (o169 P) (N o151 L L) L))
noncomputable def q72 : BT := N o1 (N o197 (N o31 (N o0 L L) (N o99 L L)) (N o0 (N o1 L L) L)) (N o90 (N (o183 P) (N o128 L L) L) (N o31 (N o0 L L) L))
noncomputable def q73 : BT := N (boot_o_9 P) (N o178 (N o162 (N o20 L L) (N o194 L L)) (N (o133 P) (N o77 L L) L)) (N o1 (N o130 (N o192 L L) L) (N o155 (N o66 L L) L))
noncomputable def q74 : BT := N o101 (N o167 (N (o146 P) (N o1 L L) (N o196 L L)) (N o82 (N o124 L L) L)) (N o1 (N o190 (N o168 L L) L) (N (o149 P) (N o28 L L) L))
noncomputable def q75 : BT := N (boot_o_8 P) (N o0 (N o59 (N o105 L L) (N o0 L L)) (N o67 (N o96 L L) L)) (N (o180 P) (N o83 (N o54 L L) L) (N o174 (N o56 L L) L))
noncomputable def q76 : BT := N o135 (N o102 (N o67 (N o176 L L) (N o154 L L)) (N o65 (N o0 L L) L)) (N o79 (N o10 (N o118 L L) L) (N o67 (N o107 L L) L))
noncomputable def q77 : BT := N (boot_o_10 P) (N o1 (N o21 (N o1 L L) (N o1 L L)) (N o1 (N o69 L L) L)) (N o0 (N o1 (N (o64 P) L L) L) (N o38 (N o1 L L) L))
noncomputable def q78 : BT := N o47 (N o50 (N o1 (N o153 L L) L) (N o1 (N o1 L L) L)) (N (o16 P) (N o147 (N o1 L L) L) (N o1 (N o144 L L) L))
noncomputable def q79 : BT := N (boot_o_0 P) (N (boot_o_1 P) (N (o55 P) (q71 P) (q72 P)) (N (boot_o_5 P) (q73 P) (q74 P))) (N (boot_o_2 P) (N (boot_o_4 P) (q75 P) q76) (N (boot_o_6 P) (q77 P) (q78 P)))
noncomputable def t146 (P : Params) : BT := (q79 P)
noncomputable def q80 : BT := N (boot_o_1 P) (N (o75 P) (N (boot_o_7 P) (N o1 (N o172 L L) L) (N o67 L L)) (N o1 (N o197 L L) (N o90 L L))) (N (boot_o_5 P) (N (boot_o_9 P) (N o178 (N o162 L L) L) (N o1 L L)) (N o101 (N o167 L L) (N o1 L L)))
noncomputable def q81 : BT := N (boot_o_2 P) (N (boot_o_4 P) (N (boot_o_8 P) (N o0 (N o59 L L) L) (N (o180 P) L L)) (N o8 (N o102 L L) (N o79 L L))) (N (boot_o_6 P) (N (boot_o_10 P) (N o1 (N o21 L L) L) (N o0 L L)) (N o47 (N o50 L L) (N (o16 P) L L)))
noncomputable def t70 (P : Params) : BT := (N (boot_o_0 P) (q80 P) (q81 P))
noncomputable def q82 : BT := N (boot_o_0 P) (N (boot_o_1 P) (N (boot_o_3 P) (N (boot_o_7 P) L L) (N o1 L L)) (N (boot_o_5 P) (N (boot_o_9 P) L L) (N o101 L L))) (N (boot_o_2 P) (N (boot_o_4 P) (N (boot_o_8 P) L L) (N o0 L L)) (N (boot_o_6 P) (N (boot_o_10 P) L L) (N o47 L L)))
noncomputable def t47 (P : Params) : BT := (q82 P)
noncomputable def vw : Program := PySem.W.view PySem.Challenge.pw_treeright_k81_trees_as_texts [0, 2, 3, 4, 5, 7, 8, 9, 10, 11, 12, 13, 14, 15, 16, 17, 18, 20, 21, 22, 23, 24, 25, 26, 28, 29, 30, 31, 32, 33, 34, 35, 36, 37]
noncomputable def s49 : List Stmt := (PySem.Challenge.pw_treeright_k81_trees_as_texts.main.body.drop 0).take 3
noncomputable def s71 : List Stmt := (PySem.Challenge.pw_treeright_k81_trees_as_texts.main.body.drop 3).take 1
noncomputable def s86 : List Stmt := (PySem.Challenge.pw_treeright_k81_trees_as_texts.main.body.drop 4).take 1
noncomputable def s101 : List Stmt := (PySem.Challenge.pw_treeright_k81_trees_as_texts.main.body.drop 5).take 8
noncomputable def s147 : List Stmt := (PySem.Challenge.pw_treeright_k81_trees_as_texts.main.body.drop 13).take 5
noncomputable def s180 : List Stmt := (PySem.Challenge.pw_treeright_k81_trees_as_texts.main.body.drop 18).take 1
noncomputable def s243 : List Stmt := (PySem.Challenge.pw_treeright_k81_trees_as_texts.main.body.drop 19).take 14
noncomputable def s323 : List Stmt := (PySem.Challenge.pw_treeright_k81_trees_as_texts.main.body.drop 33).take 5
end HD
end
noncomputable def PySem.W.Fast.tw14598715356260435866 : Unit := ()
noncomputable def PySem.W.Fast.tw12831946366807014121 : Unit := ()
noncomputable def PySem.W.Fast.tw2505294214074580061 : Unit := ()
noncomputable def PySem.W.Fast.tw1184825839854068080 : Unit := ()
noncomputable def PySem.W.Fast.tw16963627058361203756 : Unit := ()
noncomputable def PySem.W.Fast.tw4063309880790847132 : Unit := ()
noncomputable def PySem.W.Fast.tw16335552587211677449 : Unit := ()
noncomputable def PySem.W.Fast.tw1921148480499289173 : Unit := ()
noncomputable def PySem.W.Fast.tw8219606844568596651 : Unit := ()
noncomputable def PySem.W.Fast.tw1564543192828473526 : Unit := ()
noncomputable def PySem.W.Fast.tw9434032782923581289 : Unit := ()
noncomputable def PySem.W.Fast.tw3094701115853657799 : Unit := ()
lay_quick PySem.Challenge.pw_treeright_k81_trees_as_texts
lay_quick HD.t322
lay_quick HD.t85
lay_quick HD.t242
lay_quick HD.e356
lay_quick HD.t179
lay_quick HD.t100
lay_quick HD.e46
lay_quick HD.t355
lay_quick HD.t146
lay_quick HD.t70
lay_quick HD.t47
noncomputable def PySem.W.Fast.tw6436848712300024549 : PySem.Params → PySem.W.BT := PySem.W.Fast.tw17882548670812270181
theorem PySem.W.Fast.te6436848712300024549 : HD.t322 = PySem.W.Fast.tw6436848712300024549 := PySem.W.Fast.te17882548670812270181
noncomputable def PySem.W.Fast.tw2294854397974045510 : PySem.Params → PySem.W.BT := PySem.W.Fast.tw2036878166784380086
theorem PySem.W.Fast.te2294854397974045510 : HD.t85 = PySem.W.Fast.tw2294854397974045510 := PySem.W.Fast.te2036878166784380086
noncomputable def PySem.W.Fast.tw16029188298635462215 : PySem.Params → PySem.W.BT := PySem.W.Fast.tw9221785693231611341
theorem PySem.W.Fast.te16029188298635462215 : HD.t242 = PySem.W.Fast.tw16029188298635462215 := PySem.W.Fast.te9221785693231611341
noncomputable def PySem.W.Fast.tw6377384395623174761 : PySem.Params → PySem.Heap := PySem.W.Fast.tw4199718874076211937
theorem PySem.W.Fast.te6377384395623174761 : HD.e356 = PySem.W.Fast.tw6377384395623174761 := PySem.W.Fast.te4199718874076211937
noncomputable def PySem.W.Fast.tw1882405436789405162 : PySem.Params → PySem.W.BT := PySem.W.Fast.tw799239182477454060
theorem PySem.W.Fast.te1882405436789405162 : HD.t179 = PySem.W.Fast.tw1882405436789405162 := PySem.W.Fast.te799239182477454060
noncomputable def PySem.W.Fast.tw17546005709695080877 : PySem.Params → PySem.W.BT := PySem.W.Fast.tw11108817263175320385
theorem PySem.W.Fast.te17546005709695080877 : HD.t100 = PySem.W.Fast.tw17546005709695080877 := PySem.W.Fast.te11108817263175320385
noncomputable def PySem.W.Fast.tw2257529940240947247 : PySem.Params → PySem.Heap := PySem.W.Fast.tw12643942650068612825
theorem PySem.W.Fast.te2257529940240947247 : HD.e46 = PySem.W.Fast.tw2257529940240947247 := PySem.W.Fast.te12643942650068612825
noncomputable def PySem.W.Fast.tw15161603537278095827 : PySem.Params → PySem.W.BT := PySem.W.Fast.tw143973533592741127
theorem PySem.W.Fast.te15161603537278095827 : HD.t355 = PySem.W.Fast.tw15161603537278095827 := PySem.W.Fast.te143973533592741127
noncomputable def PySem.W.Fast.tw1096926160377077083 : PySem.Params → PySem.W.BT := PySem.W.Fast.tw3156972013186767184
theorem PySem.W.Fast.te1096926160377077083 : HD.t146 = PySem.W.Fast.tw1096926160377077083 := PySem.W.Fast.te3156972013186767184
noncomputable def PySem.W.Fast.tw877418901244307835 : PySem.Params → PySem.W.BT := PySem.W.Fast.tw4601978763475442059
theorem PySem.W.Fast.te877418901244307835 : HD.t70 = PySem.W.Fast.tw877418901244307835 := PySem.W.Fast.te4601978763475442059
noncomputable def PySem.W.Fast.tw804092199982636349 : PySem.Params → PySem.W.BT := PySem.W.Fast.tw12288697002581643564
theorem PySem.W.Fast.te804092199982636349 : HD.t47 = PySem.W.Fast.tw804092199982636349 := PySem.W.Fast.te12288697002581643564
noncomputable def PySem.W.Fast.tw1647960591809683682 : PySem.Program := PySem.W.view PySem.W.Fast.tw2016940218654860422 [0, 2, 3, 4, 5, 7, 8, 9, 10, 11, 12, 13, 14, 15, 16, 17, 18, 20, 21, 22, 23, 24, 25, 26, 28, 29, 30, 31, 32, 33, 34, 35, 36, 37]
theorem PySem.W.Fast.te1647960591809683682 : HD.vw = PySem.W.Fast.tw1647960591809683682 := congrArg (fun p : PySem.Program => PySem.W.view p [0, 2, 3, 4, 5, 7, 8, 9, 10, 11, 12, 13, 14, 15, 16, 17, 18, 20, 21, 22, 23, 24, 25, 26, 28, 29, 30, 31, 32, 33, 34, 35, 36, 37]) PySem.W.Fast.te2016940218654860422
noncomputable def PySem.W.Fast.tw16970792351503237766 : List PySem.Stmt := (PySem.W.Fast.tw2016940218654860422.main.body.drop 0).take 3
theorem PySem.W.Fast.te16970792351503237766 : HD.s49 = PySem.W.Fast.tw16970792351503237766 := congrArg (fun p : PySem.Program => (p.main.body.drop 0).take 3) PySem.W.Fast.te2016940218654860422
noncomputable def PySem.W.Fast.tw7766378276201275438 : List PySem.Stmt := (PySem.W.Fast.tw2016940218654860422.main.body.drop 3).take 1
theorem PySem.W.Fast.te7766378276201275438 : HD.s71 = PySem.W.Fast.tw7766378276201275438 := congrArg (fun p : PySem.Program => (p.main.body.drop 3).take 1) PySem.W.Fast.te2016940218654860422
noncomputable def PySem.W.Fast.tw9305391788130653963 : List PySem.Stmt := (PySem.W.Fast.tw2016940218654860422.main.body.drop 4).take 1
theorem PySem.W.Fast.te9305391788130653963 : HD.s86 = PySem.W.Fast.tw9305391788130653963 := congrArg (fun p : PySem.Program => (p.main.body.drop 4).take 1) PySem.W.Fast.te2016940218654860422
noncomputable def PySem.W.Fast.tw12673549619886724666 : List PySem.Stmt := (PySem.W.Fast.tw2016940218654860422.main.body.drop 5).take 8
theorem PySem.W.Fast.te12673549619886724666 : HD.s101 = PySem.W.Fast.tw12673549619886724666 := congrArg (fun p : PySem.Program => (p.main.body.drop 5).take 8) PySem.W.Fast.te2016940218654860422
noncomputable def PySem.W.Fast.tw18325833102151324646 : List PySem.Stmt := (PySem.W.Fast.tw2016940218654860422.main.body.drop 13).take 5
theorem PySem.W.Fast.te18325833102151324646 : HD.s147 = PySem.W.Fast.tw18325833102151324646 := congrArg (fun p : PySem.Program => (p.main.body.drop 13).take 5) PySem.W.Fast.te2016940218654860422
noncomputable def PySem.W.Fast.tw14895723478659525846 : List PySem.Stmt := (PySem.W.Fast.tw2016940218654860422.main.body.drop 18).take 1
theorem PySem.W.Fast.te14895723478659525846 : HD.s180 = PySem.W.Fast.tw14895723478659525846 := congrArg (fun p : PySem.Program => (p.main.body.drop 18).take 1) PySem.W.Fast.te2016940218654860422
noncomputable def PySem.W.Fast.tw6692257562035669867 : List PySem.Stmt := (PySem.W.Fast.tw2016940218654860422.main.body.drop 19).take 14
theorem PySem.W.Fast.te6692257562035669867 : HD.s243 = PySem.W.Fast.tw6692257562035669867 := congrArg (fun p : PySem.Program => (p.main.body.drop 19).take 14) PySem.W.Fast.te2016940218654860422
noncomputable def PySem.W.Fast.tw2392862895566340036 : List PySem.Stmt := (PySem.W.Fast.tw2016940218654860422.main.body.drop 33).take 5
theorem PySem.W.Fast.te2392862895566340036 : HD.s323 = PySem.W.Fast.tw2392862895566340036 := congrArg (fun p : PySem.Program => (p.main.body.drop 33).take 5) PySem.W.Fast.te2016940218654860422
open_top head for PySem.Challenge.rw_treeright_k81_trees_as_texts
end
set_option Elab.async false
set_option linter.all false
set_option maxRecDepth 100000
set_option maxHeartbeats 4000000
namespace K81
open PySem L2
theorem all_mk {l : PySem.W.OpenLaw} {w : World} {K : PySem.W.Frag} {h : Heap} {mg : Str → Option Value} {fa : Addr} (X : K.In h) (G : h.Ns mainGlobals mg) (hfa : mg "law" = some (.ref fa))
    {f0 : Addr} {od0 an0 : Option Addr} {sl0 : Array (Option Value)} {oc0 kV0 dc0 pm0 cd0 ct0 : Value}
    {f1 : Addr} {od1 an1 : Option Addr} {sl1 : Array (Option Value)} {oc1 kV1 dc1 pm1 cd1 ct1 : Value}
    {f2 : Addr} {od2 an2 : Option Addr} {sl2 : Array (Option Value)} {oc2 kV2 dc2 pm2 cd2 ct2 : Value}
    {f3 : Addr} {od3 an3 : Option Addr} {sl3 : Array (Option Value)} {oc3 kV3 dc3 pm3 cd3 ct3 : Value}
    {f4 : Addr} {od4 an4 : Option Addr} {sl4 : Array (Option Value)} {oc4 kV4 dc4 pm4 cd4 ct4 : Value}
    {f5 : Addr} {od5 an5 : Option Addr} {sl5 : Array (Option Value)} {oc5 kV5 dc5 pm5 cd5 ct5 : Value}
    {f6 : Addr} {od6 an6 : Option Addr} {sl6 : Array (Option Value)} {oc6 kV6 dc6 pm6 cd6 ct6 : Value}
    {f7 : Addr} {od7 an7 : Option Addr} {sl7 : Array (Option Value)} {oc7 kV7 dc7 pm7 cd7 ct7 : Value}
    {f8 : Addr} {od8 an8 : Option Addr} {sl8 : Array (Option Value)} {oc8 kV8 dc8 pm8 cd8 ct8 : Value}
    {f9 : Addr} {od9 an9 : Option Addr} {sl9 : Array (Option Value)} {oc9 kV9 dc9 pm9 cd9 ct9 : Value}
    {f10 : Addr} {od10 an10 : Option Addr} {sl10 : Array (Option Value)} {oc10 kV10 dc10 pm10 cd10 ct10 : Value}
    {f11 : Addr} {od11 an11 : Option Addr} {sl11 : Array (Option Value)} {oc11 kV11 dc11 pm11 cd11 ct11 : Value}
    {f12 : Addr} {od12 an12 : Option Addr} {sl12 : Array (Option Value)} {oc12 kV12 dc12 pm12 cd12 ct12 : Value}
    {f13 : Addr} {od13 an13 : Option Addr} {sl13 : Array (Option Value)} {oc13 kV13 dc13 pm13 cd13 ct13 : Value}
    {f14 : Addr} {od14 an14 : Option Addr} {sl14 : Array (Option Value)} {oc14 kV14 dc14 pm14 cd14 ct14 : Value}
    {f15 : Addr} {od15 an15 : Option Addr} {sl15 : Array (Option Value)} {oc15 kV15 dc15 pm15 cd15 ct15 : Value}
    {f16 : Addr} {od16 an16 : Option Addr} {sl16 : Array (Option Value)} {oc16 kV16 dc16 pm16 cd16 ct16 : Value}
    {f17 : Addr} {od17 an17 : Option Addr} {sl17 : Array (Option Value)} {oc17 kV17 dc17 pm17 cd17 ct17 : Value}
    {f18 : Addr} {od18 an18 : Option Addr} {sl18 : Array (Option Value)} {oc18 kV18 dc18 pm18 cd18 ct18 : Value}
    {f19 : Addr} {od19 an19 : Option Addr} {sl19 : Array (Option Value)} {oc19 kV19 dc19 pm19 cd19 ct19 : Value}
    {f20 : Addr} {od20 an20 : Option Addr} {sl20 : Array (Option Value)} {oc20 kV20 dc20 pm20 cd20 ct20 : Value}
    {f21 : Addr} {od21 an21 : Option Addr} {sl21 : Array (Option Value)} {oc21 kV21 dc21 pm21 cd21 ct21 : Value}
    {f22 : Addr} {od22 an22 : Option Addr} {sl22 : Array (Option Value)} {oc22 kV22 dc22 pm22 cd22 ct22 : Value}
    {f23 : Addr} {od23 an23 : Option Addr} {sl23 : Array (Option Value)} {oc23 kV23 dc23 pm23 cd23 ct23 : Value}
    {f24 : Addr} {od24 an24 : Option Addr} {sl24 : Array (Option Value)} {oc24 kV24 dc24 pm24 cd24 ct24 : Value}
    {f25 : Addr} {od25 an25 : Option Addr} {sl25 : Array (Option Value)} {oc25 kV25 dc25 pm25 cd25 ct25 : Value}
    {C : Addr}
    {fC_0 : Addr} {odC_0 anC_0 : Option Addr} {slC_0 : Array (Option Value)} {ocC_0 kVC_0 dcC_0 pmC_0 cdC_0 ctC_0 : Value}
    {fC_1 : Addr} {odC_1 anC_1 : Option Addr} {slC_1 : Array (Option Value)} {ocC_1 kVC_1 dcC_1 pmC_1 cdC_1 ctC_1 : Value}
    {fC_2 : Addr} {odC_2 anC_2 : Option Addr} {slC_2 : Array (Option Value)} {ocC_2 kVC_2 dcC_2 pmC_2 cdC_2 ctC_2 : Value}
    {t_LETTERS : Tok}
    {t_LONGEST_NAME : Tok}
    (a0 : PySem.W.nsIn K mainGlobals "is_name" = some (some (.ref f0))) (l0 : K.lookup f0 = some ⟨oc0, od0, .func (PySem.W.fnOf "is_name" "is_name" (defArgs sName) (defBody sName) (defScope sName) .none kV0 dc0 pm0 an0 cd0 ct0), sl0⟩) (c0 : PySem.W.codeIn K cd0 "is_name" = true) (k0 : PySem.W.keepIn K (.ref f0) = true)
    (a1 : PySem.W.nsIn K mainGlobals "is_one_of" = some (some (.ref f1))) (l1 : K.lookup f1 = some ⟨oc1, od1, .func (PySem.W.fnOf "is_one_of" "is_one_of" (defArgs sOneOf) (defBody sOneOf) (defScope sOneOf) .none kV1 dc1 pm1 an1 cd1 ct1), sl1⟩) (c1 : PySem.W.codeIn K cd1 "is_one_of" = true) (k1 : PySem.W.keepIn K (.ref f1) = true)
    (a2 : PySem.W.nsIn K mainGlobals "are_names" = some (some (.ref f2))) (l2 : K.lookup f2 = some ⟨oc2, od2, .func (PySem.W.fnOf "are_names" "are_names" (defArgs sAreN) (defBody sAreN) (defScope sAreN) .none kV2 dc2 pm2 an2 cd2 ct2), sl2⟩) (c2 : PySem.W.codeIn K cd2 "are_names" = true) (k2 : PySem.W.keepIn K (.ref f2) = true)
    (a3 : PySem.W.nsIn K mainGlobals "are_unlike" = some (some (.ref f3))) (l3 : K.lookup f3 = some ⟨oc3, od3, .func (PySem.W.fnOf "are_unlike" "are_unlike" (defArgs sUnl) (defBody sUnl) (defScope sUnl) .none kV3 dc3 pm3 an3 cd3 ct3), sl3⟩) (c3 : PySem.W.codeIn K cd3 "are_unlike" = true) (k3 : PySem.W.keepIn K (.ref f3) = true)
    (a4 : PySem.W.nsIn K mainGlobals "are_houses" = some (some (.ref f4))) (l4 : K.lookup f4 = some ⟨oc4, od4, .func (PySem.W.fnOf "are_houses" "are_houses" (defArgs sAreH) (defBody sAreH) (defScope sAreH) .none kV4 dc4 pm4 an4 cd4 ct4), sl4⟩) (c4 : PySem.W.codeIn K cd4 "are_houses" = true) (k4 : PySem.W.keepIn K (.ref f4) = true)
    (a5 : PySem.W.nsIn K mainGlobals "is_tie" = some (some (.ref f5))) (l5 : K.lookup f5 = some ⟨oc5, od5, .func (PySem.W.fnOf "is_tie" "is_tie" (defArgs sTie) (defBody sTie) (defScope sTie) .none kV5 dc5 pm5 an5 cd5 ct5), sl5⟩) (c5 : PySem.W.codeIn K cd5 "is_tie" = true) (k5 : PySem.W.keepIn K (.ref f5) = true)
    (a6 : PySem.W.nsIn K mainGlobals "are_ties" = some (some (.ref f6))) (l6 : K.lookup f6 = some ⟨oc6, od6, .func (PySem.W.fnOf "are_ties" "are_ties" (defArgs sAreT) (defBody sAreT) (defScope sAreT) .none kV6 dc6 pm6 an6 cd6 ct6), sl6⟩) (c6 : PySem.W.codeIn K cd6 "are_ties" = true) (k6 : PySem.W.keepIn K (.ref f6) = true)
    (a7 : PySem.W.nsIn K mainGlobals "tied_to_each" = some (some (.ref f7))) (l7 : K.lookup f7 = some ⟨oc7, od7, .func (PySem.W.fnOf "tied_to_each" "tied_to_each" (defArgs sTied) (defBody sTied) (defScope sTied) .none kV7 dc7 pm7 an7 cd7 ct7), sl7⟩) (c7 : PySem.W.codeIn K cd7 "tied_to_each" = true) (k7 : PySem.W.keepIn K (.ref f7) = true)
    (a8 : PySem.W.nsIn K mainGlobals "steps_toward" = some (some (.ref f8))) (l8 : K.lookup f8 = some ⟨oc8, od8, .func (PySem.W.fnOf "steps_toward" "steps_toward" (defArgs sSteps) (defBody sSteps) (defScope sSteps) .none kV8 dc8 pm8 an8 cd8 ct8), sl8⟩) (c8 : PySem.W.codeIn K cd8 "steps_toward" = true) (k8 : PySem.W.keepIn K (.ref f8) = true)
    (a9 : PySem.W.nsIn K mainGlobals "_law_mixed" = some (some (.ref f9))) (l9 : K.lookup f9 = some ⟨oc9, od9, .func (PySem.W.fnOf "_law_mixed" "_law_mixed" (defArgs sMixed) (defBody sMixed) (defScope sMixed) .none kV9 dc9 pm9 an9 cd9 ct9), sl9⟩) (c9 : PySem.W.codeIn K cd9 "_law_mixed" = true) (k9 : PySem.W.keepIn K (.ref f9) = true)
    (a10 : PySem.W.nsIn K mainGlobals "_law_digits" = some (some (.ref f10))) (l10 : K.lookup f10 = some ⟨oc10, od10, .func (PySem.W.fnOf "_law_digits" "_law_digits" (defArgs sDigits) (defBody sDigits) (defScope sDigits) .none kV10 dc10 pm10 an10 cd10 ct10), sl10⟩) (c10 : PySem.W.codeIn K cd10 "_law_digits" = true) (k10 : PySem.W.keepIn K (.ref f10) = true)
    (a11 : PySem.W.nsIn K mainGlobals "_law_next" = some (some (.ref f11))) (l11 : K.lookup f11 = some ⟨oc11, od11, .func (PySem.W.fnOf "_law_next" "_law_next" (defArgs sNext) (defBody sNext) (defScope sNext) .none kV11 dc11 pm11 an11 cd11 ct11), sl11⟩) (c11 : PySem.W.codeIn K cd11 "_law_next" = true) (k11 : PySem.W.keepIn K (.ref f11) = true)
    (a12 : PySem.W.nsIn K mainGlobals "_law_word" = some (some (.ref f12))) (l12 : K.lookup f12 = some ⟨oc12, od12, .func (PySem.W.fnOf "_law_word" "_law_word" (defArgs sWord) (defBody sWord) (defScope sWord) .none kV12 dc12 pm12 an12 cd12 ct12), sl12⟩) (c12 : PySem.W.codeIn K cd12 "_law_word" = true) (k12 : PySem.W.keepIn K (.ref f12) = true)
    (a13 : PySem.W.nsIn K mainGlobals "_law_names" = some (some (.ref f13))) (l13 : K.lookup f13 = some ⟨oc13, od13, .func (PySem.W.fnOf "_law_names" "_law_names" (defArgs sNames) (defBody sNames) (defScope sNames) .none kV13 dc13 pm13 an13 cd13 ct13), sl13⟩) (c13 : PySem.W.codeIn K cd13 "_law_names" = true) (k13 : PySem.W.keepIn K (.ref f13) = true)
    (a14 : PySem.W.nsIn K mainGlobals "_law_turned" = some (some (.ref f14))) (l14 : K.lookup f14 = some ⟨oc14, od14, .func (PySem.W.fnOf "_law_turned" "_law_turned" (defArgs sTurned) (defBody sTurned) (defScope sTurned) .none kV14 dc14 pm14 an14 cd14 ct14), sl14⟩) (c14 : PySem.W.codeIn K cd14 "_law_turned" = true) (k14 : PySem.W.keepIn K (.ref f14) = true)
    (a15 : PySem.W.nsIn K mainGlobals "_law_shuffled" = some (some (.ref f15))) (l15 : K.lookup f15 = some ⟨oc15, od15, .func (PySem.W.fnOf "_law_shuffled" "_law_shuffled" (defArgs sShuf) (defBody sShuf) (defScope sShuf) .none kV15 dc15 pm15 an15 cd15 ct15), sl15⟩) (c15 : PySem.W.codeIn K cd15 "_law_shuffled" = true) (k15 : PySem.W.keepIn K (.ref f15) = true)
    (a16 : PySem.W.nsIn K mainGlobals "_law_tree" = some (some (.ref f16))) (l16 : K.lookup f16 = some ⟨oc16, od16, .func (PySem.W.fnOf "_law_tree" "_law_tree" (defArgs sTree) (defBody sTree) (defScope sTree) .none kV16 dc16 pm16 an16 cd16 ct16), sl16⟩) (c16 : PySem.W.codeIn K cd16 "_law_tree" = true) (k16 : PySem.W.keepIn K (.ref f16) = true)
    (a17 : PySem.W.nsIn K mainGlobals "_law_tree_text" = some (some (.ref f17))) (l17 : K.lookup f17 = some ⟨oc17, od17, .func (PySem.W.fnOf "_law_tree_text" "_law_tree_text" (defArgs sTxt) (defBody sTxt) (defScope sTxt) .none kV17 dc17 pm17 an17 cd17 ct17), sl17⟩) (c17 : PySem.W.codeIn K cd17 "_law_tree_text" = true) (k17 : PySem.W.keepIn K (.ref f17) = true)
    (a18 : PySem.W.nsIn K mainGlobals "check_text" = some (some (.ref f18))) (l18 : K.lookup f18 = some ⟨oc18, od18, .func (PySem.W.fnOf "check_text" "check_text" (defArgs sCkT) (defBody sCkT) (defScope sCkT) .none kV18 dc18 pm18 an18 cd18 ct18), sl18⟩) (c18 : PySem.W.codeIn K cd18 "check_text" = true) (k18 : PySem.W.keepIn K (.ref f18) = true)
    (a19 : PySem.W.nsIn K mainGlobals "rises" = some (some (.ref f19))) (l19 : K.lookup f19 = some ⟨oc19, od19, .func (PySem.W.fnOf "rises" "rises" (defArgs sRis) (defBody sRis) (defScope sRis) .none kV19 dc19 pm19 an19 cd19 ct19), sl19⟩) (c19 : PySem.W.codeIn K cd19 "rises" = true) (k19 : PySem.W.keepIn K (.ref f19) = true)
    (a20 : PySem.W.nsIn K mainGlobals "closes_ring" = some (some (.ref f20))) (l20 : K.lookup f20 = some ⟨oc20, od20, .func (PySem.W.fnOf "closes_ring" "closes_ring" (defArgs sClo) (defBody sClo) (defScope sClo) .none kV20 dc20 pm20 an20 cd20 ct20), sl20⟩) (c20 : PySem.W.codeIn K cd20 "closes_ring" = true) (k20 : PySem.W.keepIn K (.ref f20) = true)
    (a21 : PySem.W.nsIn K mainGlobals "read_houses" = some (some (.ref f21))) (l21 : K.lookup f21 = some ⟨oc21, od21, .func (PySem.W.fnOf "read_houses" "read_houses" (defArgs sRdH) (defBody sRdH) (defScope sRdH) .none kV21 dc21 pm21 an21 cd21 ct21), sl21⟩) (c21 : PySem.W.codeIn K cd21 "read_houses" = true) (k21 : PySem.W.keepIn K (.ref f21) = true)
    (a22 : PySem.W.nsIn K mainGlobals "read_tie" = some (some (.ref f22))) (l22 : K.lookup f22 = some ⟨oc22, od22, .func (PySem.W.fnOf "read_tie" "read_tie" (defArgs sRdT) (defBody sRdT) (defScope sRdT) .none kV22 dc22 pm22 an22 cd22 ct22), sl22⟩) (c22 : PySem.W.codeIn K cd22 "read_tie" = true) (k22 : PySem.W.keepIn K (.ref f22) = true)
    (a23 : PySem.W.nsIn K mainGlobals "read_tree" = some (some (.ref f23))) (l23 : K.lookup f23 = some ⟨oc23, od23, .func (PySem.W.fnOf "read_tree" "read_tree" (defArgs sRdX) (defBody sRdX) (defScope sRdX) .none kV23 dc23 pm23 an23 cd23 ct23), sl23⟩) (c23 : PySem.W.codeIn K cd23 "read_tree" = true) (k23 : PySem.W.keepIn K (.ref f23) = true)
    (a24 : PySem.W.nsIn K mainGlobals "show_tree" = some (some (.ref f24))) (l24 : K.lookup f24 = some ⟨oc24, od24, .func (PySem.W.fnOf "show_tree" "show_tree" (defArgs sShw) (defBody sShw) (defScope sShw) .none kV24 dc24 pm24 an24 cd24 ct24), sl24⟩) (c24 : PySem.W.codeIn K cd24 "show_tree" = true) (k24 : PySem.W.keepIn K (.ref f24) = true)
    (a25 : PySem.W.nsIn K mainGlobals "law" = some (some (.ref f25))) (l25 : K.lookup f25 = some ⟨oc25, od25, .func (PySem.W.fnOf "law" "law" (defArgs sLaw) (defBody sLaw) (defScope sLaw) .none kV25 dc25 pm25 an25 cd25 ct25), sl25⟩) (c25 : PySem.W.codeIn K cd25 "law" = true) (k25 : PySem.W.keepIn K (.ref f25) = true)
    (aC_C : PySem.W.nsIn K mainGlobals "Tree" = some (some (.ref C)))
    (aC_0 : PySem.W.findIn K (.ref C) "__init__" = some (some (.ref fC_0))) (iC_0 : PySem.W.isFn K (.ref fC_0) = true) (lC_0 : K.lookup fC_0 = some ⟨ocC_0, odC_0, .func (PySem.W.fnOf "__init__" "Tree.__init__" (defArgs sInit) (defBody sInit) (defScope sInit) .none kVC_0 dcC_0 pmC_0 anC_0 cdC_0 ctC_0), slC_0⟩) (cC_0 : PySem.W.codeIn K cdC_0 "Tree.__init__" = true) (kC_0 : PySem.W.keepIn K (.ref fC_0) = true)
    (aC_1 : PySem.W.findIn K (.ref C) "houses" = some (some (.ref fC_1))) (iC_1 : PySem.W.isFn K (.ref fC_1) = true) (lC_1 : K.lookup fC_1 = some ⟨ocC_1, odC_1, .func (PySem.W.fnOf "houses" "Tree.houses" (defArgs sHouses) (defBody sHouses) (defScope sHouses) .none kVC_1 dcC_1 pmC_1 anC_1 cdC_1 ctC_1), slC_1⟩) (cC_1 : PySem.W.codeIn K cdC_1 "Tree.houses" = true) (kC_1 : PySem.W.keepIn K (.ref fC_1) = true)
    (aC_2 : PySem.W.findIn K (.ref C) "ties" = some (some (.ref fC_2))) (iC_2 : PySem.W.isFn K (.ref fC_2) = true) (lC_2 : K.lookup fC_2 = some ⟨ocC_2, odC_2, .func (PySem.W.fnOf "ties" "Tree.ties" (defArgs sTies) (defBody sTies) (defScope sTies) .none kVC_2 dcC_2 pmC_2 anC_2 cdC_2 ctC_2), slC_2⟩) (cC_2 : PySem.W.codeIn K cdC_2 "Tree.ties" = true) (kC_2 : PySem.W.keepIn K (.ref fC_2) = true)
    (pg_C : PySem.W.plainGet K C Str.empty = true) (hd_C : PySem.W.hasDictIn K C = true) (po_C : PySem.W.plainOver K C = true) (sa_C : PySem.W.findIn K (.ref C) "__setattr__" = some (some (.builtin "object.__setattr__"))) (mk_C : PySem.W.makesIn K C = true) (kc_C : PySem.W.keepIn K (.ref C) = true)
    (n_C_names : PySem.W.findIn K (.ref C) "names" = some none)
    (n_C_pairs : PySem.W.findIn K (.ref C) "pairs" = some none)
    (n_C_near : PySem.W.findIn K (.ref C) "near" = some none)
    (z_isinstance : PySem.W.nsIn K mainGlobals "isinstance" = some none)
    (z_str : PySem.W.nsIn K mainGlobals "str" = some none)
    (z_len : PySem.W.nsIn K mainGlobals "len" = some none)
    (z_all : PySem.W.nsIn K mainGlobals "all" = some none)
    (z_list : PySem.W.nsIn K mainGlobals "list" = some none)
    (z_tuple : PySem.W.nsIn K mainGlobals "tuple" = some none)
    (z_set : PySem.W.nsIn K mainGlobals "set" = some none)
    (z_sorted : PySem.W.nsIn K mainGlobals "sorted" = some none)
    (z_min : PySem.W.nsIn K mainGlobals "min" = some none)
    (z_max : PySem.W.nsIn K mainGlobals "max" = some none)
    (z_range : PySem.W.nsIn K mainGlobals "range" = some none)
    (z_enumerate : PySem.W.nsIn K mainGlobals "enumerate" = some none)
    (g_LETTERS : PySem.W.nsIn K mainGlobals "LETTERS" = some (some (.str "abcdefghijklmnopqrstuvwxyz" t_LETTERS)))
    (g_LONGEST_NAME : PySem.W.nsIn K mainGlobals "LONGEST_NAME" = some (some (.int 8 t_LONGEST_NAME)))
    (h_cls : PySem.W.findIn K (.ref C) "__class__" = some (some (.builtin "object.__class__")))
    (h_get : PySem.W.specialIn K (.builtin "object.__class__") "__get__" = some (some (.builtin "getset_descriptor.__get__")))
    (h_tk : PySem.W.takesIn K (.builtin "object.__class__") = some true)
    (h_mro : PySem.W.mroIn K C (.type "object") = some true) :
    ∃ fd : FuncData, (∀ (s : Shared) (v : Value), BindsTo s fd ⟨[v], []⟩ [("_law_script", v)]) ∧ ∀ base : Heap, K.In base → base.Ns mainGlobals mg → FnOk l.prog w K mg base CX0 8 fa fd ["_law_script"] (spLaw K) := by
  have e := hfa.symm.trans (PySem.W.mg_of X G a25)
  cases e
  have GI : FunG K mg "is_name" sName ["thing"] := funG_mk X G a0 l0 c0 k0 (fun _ _ _ _ _ _ us hl => match us, hl with | [_], _ => rfl)
  have GOO : FunG K mg "is_one_of" sOneOf ["thing", "houses"] := funG_mk X G a1 l1 c1 k1 (fun _ _ _ _ _ _ us hl => match us, hl with | [_, _], _ => rfl)
  have GAN : FunG K mg "are_names" sAreN ["thing"] := funG_mk X G a2 l2 c2 k2 (fun _ _ _ _ _ _ us hl => match us, hl with | [_], _ => rfl)
  have GAU : FunG K mg "are_unlike" sUnl ["names"] := funG_mk X G a3 l3 c3 k3 (fun _ _ _ _ _ _ us hl => match us, hl with | [_], _ => rfl)
  have GAH : FunG K mg "are_houses" sAreH ["thing"] := funG_mk X G a4 l4 c4 k4 (fun _ _ _ _ _ _ us hl => match us, hl with | [_], _ => rfl)
  have GIT : FunG K mg "is_tie" sTie ["thing", "houses"] := funG_mk X G a5 l5 c5 k5 (fun _ _ _ _ _ _ us hl => match us, hl with | [_, _], _ => rfl)
  have GAT : FunG K mg "are_ties" sAreT ["thing", "houses"] := funG_mk X G a6 l6 c6 k6 (fun _ _ _ _ _ _ us hl => match us, hl with | [_, _], _ => rfl)
  have GTE : FunG K mg "tied_to_each" sTied ["houses", "ties"] := funG_mk X G a7 l7 c7 k7 (fun _ _ _ _ _ _ us hl => match us, hl with | [_, _], _ => rfl)
  have GST : FunG K mg "steps_toward" sSteps ["near", "goal"] := funG_mk X G a8 l8 c8 k8 (fun _ _ _ _ _ _ us hl => match us, hl with | [_, _], _ => rfl)
  have GM : FunG K mg "_law_mixed" sMixed ["_law_cell", "_law_k"] := funG_mk X G a9 l9 c9 k9 (fun _ _ _ _ _ _ us hl => match us, hl with | [_, _], _ => rfl)
  have GD : FunG K mg "_law_digits" sDigits ["_law_cell"] := funG_mk X G a10 l10 c10 k10 (fun _ _ _ _ _ _ us hl => match us, hl with | [_], _ => rfl)
  have GN : FunG K mg "_law_next" sNext ["_law_source", "_law_many"] := funG_mk X G a11 l11 c11 k11 (fun _ _ _ _ _ _ us hl => match us, hl with | [_, _], _ => rfl)
  have GW : FunG K mg "_law_word" sWord ["_law_source", "_law_most"] := funG_mk X G a12 l12 c12 k12 (fun _ _ _ _ _ _ us hl => match us, hl with | [_, _], _ => rfl)
  have GNa : FunG K mg "_law_names" sNames ["_law_source", "_law_many"] := funG_mk X G a13 l13 c13 k13 (fun _ _ _ _ _ _ us hl => match us, hl with | [_, _], _ => rfl)
  have GTu : FunG K mg "_law_turned" sTurned ["_law_source", "_law_things"] := funG_mk X G a14 l14 c14 k14 (fun _ _ _ _ _ _ us hl => match us, hl with | [_, _], _ => rfl)
  have GSh : FunG K mg "_law_shuffled" sShuf ["_law_source", "_law_names_here"] := funG_mk X G a15 l15 c15 k15 (fun _ _ _ _ _ _ us hl => match us, hl with | [_, _], _ => rfl)
  have GTr : FunG K mg "_law_tree" sTree ["_law_source", "_law_most"] := funG_mk X G a16 l16 c16 k16 (fun _ _ _ _ _ _ us hl => match us, hl with | [_, _], _ => rfl)
  have GTx : FunG K mg "_law_tree_text" sTxt ["_law_names_here", "_law_ties"] := funG_mk X G a17 l17 c17 k17 (fun _ _ _ _ _ _ us hl => match us, hl with | [_, _], _ => rfl)
  have GCk : FunG K mg "check_text" sCkT ["thing"] := funG_mk X G a18 l18 c18 k18 (fun _ _ _ _ _ _ us hl => match us, hl with | [_], _ => rfl)
  have GRi : FunG K mg "rises" sRis ["tie", "ties"] := funG_mk X G a19 l19 c19 k19 (fun _ _ _ _ _ _ us hl => match us, hl with | [_, _], _ => rfl)
  have GCl : FunG K mg "closes_ring" sClo ["tie", "houses", "ties"] := funG_mk X G a20 l20 c20 k20 (fun _ _ _ _ _ _ us hl => match us, hl with | [_, _, _], _ => rfl)
  have GRH : FunG K mg "read_houses" sRdH ["line"] := funG_mk X G a21 l21 c21 k21 (fun _ _ _ _ _ _ us hl => match us, hl with | [_], _ => rfl)
  have GRT : FunG K mg "read_tie" sRdT ["line", "number", "houses", "ties"] := funG_mk X G a22 l22 c22 k22 (fun _ _ _ _ _ _ us hl => match us, hl with | [_, _, _, _], _ => rfl)
  have GRX : FunG K mg "read_tree" sRdX ["text"] := funG_mk X G a23 l23 c23 k23 (fun _ _ _ _ _ _ us hl => match us, hl with | [_], _ => rfl)
  have GSw : FunG K mg "show_tree" sShw ["tree"] := funG_mk X G a24 l24 c24 k24 (fun _ _ _ _ _ _ us hl => match us, hl with | [_], _ => rfl)
  have FL := fun_mk (st := sLaw) l25 c25 k25
  have cl_C : Cls K C := ⟨pg_C, hd_C, po_C, sa_C⟩
  have mIF := fun_mk (st := sInit) lC_0 cC_0 kC_0
  have mIB := mIF.binds (ps := ["self", "houses", "ties"]) (fun _ _ _ _ _ _ us hl => match us, hl with | [_, _, _], _ => rfl)
  have mIM : Mk K C fC_0 := ⟨mk_C, aC_0, iC_0, kc_C⟩
  have mH : MthG K C "houses" "Tree.houses" sHouses ["self"] := mthG_mk aC_1 iC_1 lC_1 cC_1 kC_1 (fun _ _ _ _ _ _ us hl => match us, hl with | [_], _ => rfl)
  have mT : MthG K C "ties" "Tree.ties" sTies ["self"] := mthG_mk aC_2 iC_2 lC_2 cC_2 kC_2 (fun _ _ _ _ _ _ us hl => match us, hl with | [_], _ => rfl)
  have mg_C := PySem.W.mg_of X G aC_C
  have b_isinstance : Blt mg "isinstance" := ⟨PySem.W.mg_none_of X G z_isinstance⟩
  have b_str : Blt mg "str" := ⟨PySem.W.mg_none_of X G z_str⟩
  have b_len : Blt mg "len" := ⟨PySem.W.mg_none_of X G z_len⟩
  have b_all : Blt mg "all" := ⟨PySem.W.mg_none_of X G z_all⟩
  have b_list : Blt mg "list" := ⟨PySem.W.mg_none_of X G z_list⟩
  have b_tuple : Blt mg "tuple" := ⟨PySem.W.mg_none_of X G z_tuple⟩
  have b_set : Blt mg "set" := ⟨PySem.W.mg_none_of X G z_set⟩
  have b_sorted : Blt mg "sorted" := ⟨PySem.W.mg_none_of X G z_sorted⟩
  have b_min : Blt mg "min" := ⟨PySem.W.mg_none_of X G z_min⟩
  have b_max : Blt mg "max" := ⟨PySem.W.mg_none_of X G z_max⟩
  have b_range : Blt mg "range" := ⟨PySem.W.mg_none_of X G z_range⟩
  have b_enumerate : Blt mg "enumerate" := ⟨PySem.W.mg_none_of X G z_enumerate⟩
  have gl_LETTERS : Glo mg "LETTERS" (.str abc) := ⟨_, PySem.W.mg_of X G g_LETTERS, ⟨_, rfl⟩⟩
  have gl_LONGEST_NAME : Glo mg "LONGEST_NAME" (.int 8) := ⟨_, PySem.W.mg_of X G g_LONGEST_NAME, ⟨_, rfl⟩⟩
  refine ⟨PySem.W.fnOf "law" "law" (defArgs sLaw) (defBody sLaw) (defScope sLaw) .none kV25 dc25 pm25 an25 cd25 ct25, fun s v => .of_eq rfl, fun base _ _ => ?_⟩
  have T : TreeT K C := ⟨cl_C, n_C_names, n_C_pairs, n_C_near⟩
  have CI := okName (P := l.prog) (w := w) (base := base) GI b_isinstance b_str b_len b_all gl_LETTERS gl_LONGEST_NAME
  have CO := okOneOf GOO CI
  have CAN := okAreN GAN CI b_isinstance b_list b_all
  have CAU := okUnl (P := l.prog) (w := w) (base := base) GAU b_len b_set
  have CAH := okAreH GAH CAN CAU b_len
  have CIT := okTie GIT CO b_isinstance b_tuple b_len
  have CAT := okAreT GAT CIT b_isinstance b_list b_len b_all
  have CTE := okTied (P := l.prog) (w := w) (base := base) GTE b_sorted
  have CST := okSteps (P := l.prog) (w := w) (base := base) GST
  have MK : MkCal l.prog w K mg base CX0 5 C "Tree" ["self", "houses", "ties"] (spInit C) := ⟨_, _, okInit T mIF CAH CAT CTE CST b_sorted b_min b_max b_len, mIM, mg_C, mIB⟩
  have CM := okMixed (P := l.prog) (w := w) (base := base) GM
  have CD := okDigits (P := l.prog) (w := w) (base := base) GD
  have CN := okNext GN CM
  have CW := okWord GW CN b_range
  have CNM := okNames GNa CN CW b_range b_len
  have CTU := okTurned GTu CN b_len
  have CSH := okShuf GSh CN b_len b_list
  have CTR := okTree GTr CN CNM CSH b_range b_len
  have MH := okHouses (P := l.prog) (w := w) (mg := mg) (base := base) T mH b_list
  have MT := okTies (P := l.prog) (w := w) (mg := mg) (base := base) T mT b_list
  have gTree : Glo mg "Tree" (.ref C) := ⟨_, mg_C, rfl⟩
  have CCT := okCkT (P := l.prog) (w := w) (base := base) GCk b_isinstance b_str
  have CR := okRis (P := l.prog) (w := w) (base := base) GRi b_len
  have CC := okClo GCl CTE CST
  have CRH := okRdH GRH CAH b_sorted
  have CRT := okRdT GRT CIT CR CC b_tuple
  have CRX := okRdX GRX CCT CRH CRT MK b_len b_enumerate
  have CSH2 := okShw T GSw MH MT
  have CTX := okTxt (P := l.prog) (w := w) (base := base) GTx b_sorted b_min b_max
  exact okLaw T FL CD CTR CTU CTX CSH2 CRX MK MH MT gTree h_cls h_get h_tk h_mro b_range b_str b_isinstance
theorem walk {l : PySem.W.OpenLaw} {q : Program} {loose : List Str} {XP : (Str → Option Value) → Heap → Prop} {YP : World → Heap → Prop} {d : DefRec} {K : Params → PySem.W.Frag} (hn : l.most = some 63) (hdf : d.params.defaults = [])
    (hY : ∀ (w : World) (h : Heap), YP w h → (K w.params).In h)
    (F : ∀ (w : World) (mg : Str → Option Value) (fa : Addr) (h : Heap), (K w.params).In h → h.Ns mainGlobals mg → mg d.name = some (.ref fa) →
      ∃ fd : FuncData, (∀ (s : Shared) (u : Value), BindsTo s fd ⟨[u], []⟩ [("_law_script", u)]) ∧ ∀ base : Heap, (K w.params).In base → base.Ns mainGlobals mg → FnOk l.prog w (K w.params) mg base CX0 8 fa fd ["_law_script"] (spLaw (K w.params))) :
    PySem.W.WalkO q loose XP YP l.row.toRowW d [] (fun f vs => PySem.call f vs) :=
  L2.walk_of (n := 63) (k := 8) (x := "_law_script") (CX := fun _ => CX0) (sp := fun w => spLaw (K w.params)) hn (by decide) hdf ⟨rfl, by decide, by decide⟩ hY F (fun _ _ a ns hl _ hS => ⟨a, ns, rfl, hS, hl, fun _ => rfl⟩) fun _ _ _ _ _ z => z
end K81
open PySem PySem.W PyProof.Rows
set_option maxRecDepth 100000 in
set_option maxHeartbeats 0 in
theorem PySem.Challenge.cw_treeright_k81_trees_as_texts_holds : PySem.Challenge.rw_treeright_k81_trees_as_texts.Holds := by
  refine head ?_
  k_fill
  refine K81.walk (l := PySem.Challenge.rw_treeright_k81_trees_as_texts) rfl rfl (fun w h Y => PySem.W.kIn_of Y) ?F
  case F =>
    intro w mg fa h KX G hmg
    refine' K81.all_mk KX G hmg ?a0 ?l0 ?c0 ?k0 ?a1 ?l1 ?c1 ?k1 ?a2 ?l2 ?c2 ?k2 ?a3 ?l3 ?c3 ?k3 ?a4 ?l4 ?c4 ?k4 ?a5 ?l5 ?c5 ?k5 ?a6 ?l6 ?c6 ?k6 ?a7 ?l7 ?c7 ?k7 ?a8 ?l8 ?c8 ?k8 ?a9 ?l9 ?c9 ?k9 ?a10 ?l10 ?c10 ?k10 ?a11 ?l11 ?c11 ?k11 ?a12 ?l12 ?c12 ?k12 ?a13 ?l13 ?c13 ?k13 ?a14 ?l14 ?c14 ?k14 ?a15 ?l15 ?c15 ?k15 ?a16 ?l16 ?c16 ?k16 ?a17 ?l17 ?c17 ?k17 ?a18 ?l18 ?c18 ?k18 ?a19 ?l19 ?c19 ?k19 ?a20 ?l20 ?c20 ?k20 ?a21 ?l21 ?c21 ?k21 ?a22 ?l22 ?c22 ?k22 ?a23 ?l23 ?c23 ?k23 ?a24 ?l24 ?c24 ?k24 ?a25 ?l25 ?c25 ?k25 ?aC_C ?aC_0 ?iC_0 ?lC_0 ?cC_0 ?kC_0 ?aC_1 ?iC_1 ?lC_1 ?cC_1 ?kC_1 ?aC_2 ?iC_2 ?lC_2 ?cC_2 ?kC_2 ?pg_C ?hd_C ?po_C ?sa_C ?mk_C ?kc_C ?n_C_names ?n_C_pairs ?n_C_near ?z_isinstance ?z_str ?z_len ?z_all ?z_list ?z_tuple ?z_set ?z_sorted ?z_min ?z_max ?z_range ?z_enumerate ?g_LETTERS ?g_LONGEST_NAME ?h_cls ?h_get ?h_tk ?h_mro
    (case a0 => k_is)
    (case l0 => k_is)
    (case c0 => k_is)
    (case k0 => k_is)
    (case a1 => k_is)
    (case l1 => k_is)
    (case c1 => k_is)
    (case k1 => k_is)
    (case a2 => k_is)
    (case l2 => k_is)
    (case c2 => k_is)
    (case k2 => k_is)
    (case a3 => k_is)
    (case l3 => k_is)
    (case c3 => k_is)
    (case k3 => k_is)
    (case a4 => k_is)
    (case l4 => k_is)
    (case c4 => k_is)
    (case k4 => k_is)
    (case a5 => k_is)
    (case l5 => k_is)
    (case c5 => k_is)
    (case k5 => k_is)
    (case a6 => k_is)
    (case l6 => k_is)
    (case c6 => k_is)
    (case k6 => k_is)
    (case a7 => k_is)
    (case l7 => k_is)
    (case c7 => k_is)
    (case k7 => k_is)
    (case a8 => k_is)
    (case l8 => k_is)
    (case c8 => k_is)
    (case k8 => k_is)
    (case a9 => k_is)
    (case l9 => k_is)
    (case c9 => k_is)
    (case k9 => k_is)
    (case a10 => k_is)
    (case l10 => k_is)
    (case c10 => k_is)
    (case k10 => k_is)
    (case a11 => k_is)
    (case l11 => k_is)
    (case c11 => k_is)
    (case k11 => k_is)
    (case a12 => k_is)
    (case l12 => k_is)
    (case c12 => k_is)
    (case k12 => k_is)
    (case a13 => k_is)
    (case l13 => k_is)
    (case c13 => k_is)
    (case k13 => k_is)
    (case a14 => k_is)
    (case l14 => k_is)
    (case c14 => k_is)
    (case k14 => k_is)
    (case a15 => k_is)
    (case l15 => k_is)
    (case c15 => k_is)
    (case k15 => k_is)
    (case a16 => k_is)
    (case l16 => k_is)
    (case c16 => k_is)
    (case k16 => k_is)
    (case a17 => k_is)
    (case l17 => k_is)
    (case c17 => k_is)
    (case k17 => k_is)
    (case a18 => k_is)
    (case l18 => k_is)
    (case c18 => k_is)
    (case k18 => k_is)
    (case a19 => k_is)
    (case l19 => k_is)
    (case c19 => k_is)
    (case k19 => k_is)
    (case a20 => k_is)
    (case l20 => k_is)
    (case c20 => k_is)
    (case k20 => k_is)
    (case a21 => k_is)
    (case l21 => k_is)
    (case c21 => k_is)
    (case k21 => k_is)
    (case a22 => k_is)
    (case l22 => k_is)
    (case c22 => k_is)
    (case k22 => k_is)
    (case a23 => k_is)
    (case l23 => k_is)
    (case c23 => k_is)
    (case k23 => k_is)
    (case a24 => k_is)
    (case l24 => k_is)
    (case c24 => k_is)
    (case k24 => k_is)
    (case a25 => k_is)
    (case l25 => k_is)
    (case c25 => k_is)
    (case k25 => k_is)
    (case aC_C => k_is)
    (case aC_0 => k_is)
    (case iC_0 => k_is)
    (case lC_0 => k_is)
    (case cC_0 => k_is)
    (case kC_0 => k_is)
    (case aC_1 => k_is)
    (case iC_1 => k_is)
    (case lC_1 => k_is)
    (case cC_1 => k_is)
    (case kC_1 => k_is)
    (case aC_2 => k_is)
    (case iC_2 => k_is)
    (case lC_2 => k_is)
    (case cC_2 => k_is)
    (case kC_2 => k_is)
    (case pg_C => k_is)
    (case hd_C => k_is)
    (case po_C => k_is)
    (case sa_C => k_is)
    (case mk_C => k_is)
    (case kc_C => k_is)
    (case n_C_names => k_is)
    (case n_C_pairs => k_is)
    (case n_C_near => k_is)
    (case z_isinstance => k_is)
    (case z_str => k_is)
    (case z_len => k_is)
    (case z_all => k_is)
    (case z_list => k_is)
    (case z_tuple => k_is)
    (case z_set => k_is)
    (case z_sorted => k_is)
    (case z_min => k_is)
    (case z_max => k_is)
    (case z_range => k_is)
    (case z_enumerate => k_is)
    (case g_LETTERS => k_is)
    (case g_LONGEST_NAME => k_is)
    (case h_cls => kernel_rfl)
    (case h_get => kernel_rfl)
    (case h_tk => kernel_rfl)
    (case h_mro => kernel_rfl)
