import PyProof.Rows.All
import Wide.All
import OpenK.AllK
import Wide.FinOn
import Lean
import PyProof.EqAt
import PyProof.EqKinds
import PyProof.TupleCall
import PySem.Challenge.RW_treeright_k21_houses_made
set_option Elab.async false
set_option linter.all false
set_option maxRecDepth 100000
namespace L2
open PySem PySem.Spec PyProof.Rows
noncomputable abbrev Key := Sum Int Str
noncomputable def keyIs : Key → Value → Bool
  | .inl k, v => Value.isInt k v
  | .inr x, v => Value.isStrOf x v
noncomputable def keyH (w : World) : Key → Int
  | .inl k => hashInt k
  | .inr x => hashStr w x
theorem keyIs_shape : ∀ {k : Key} {v : Value}, keyIs k v = true → (∃ i t, k = Sum.inl i ∧ v = Value.int i t) ∨ (∃ x t, k = Sum.inr x ∧ v = Value.str x t)
  | .inl i, v, h => by
    obtain ⟨t, e⟩ := Value.isInt_shape (k := i) (v := v) h
    exact .inl ⟨i, t, rfl, e⟩
  | .inr x, v, h => by
    obtain ⟨t, e⟩ := Value.isStrOf_shape (x := x) (v := v) h
    exact .inr ⟨x, t, rfl, e⟩
theorem key_ll (a b : Int) : decide ((Sum.inl a : Key) = Sum.inl b) = (a == b) := by
  by_cases e : a = b
  · subst e; simp
  · have h : ¬ (Sum.inl a : Key) = Sum.inl b := fun q => e (Sum.inl.inj q)
    rw [decide_eq_false h]
    exact (beq_eq_false_iff_ne.mpr e).symm
theorem key_rr (a b : Str) : decide ((Sum.inr a : Key) = Sum.inr b) = decide (a = b) := by
  by_cases e : a = b
  · subst e; simp
  · have h : ¬ (Sum.inr a : Key) = Sum.inr b := fun q => e (Sum.inr.inj q)
    rw [decide_eq_false h, decide_eq_false e]
theorem key_lr (a : Int) (b : Str) : decide ((Sum.inl a : Key) = Sum.inr b) = false := decide_eq_false (fun q => nomatch q)
theorem key_rl (a : Str) (b : Int) : decide ((Sum.inr a : Key) = Sum.inl b) = false := decide_eq_false (fun q => nomatch q)
noncomputable def mixKind (prog : Program) (w : World) : PySem.KeyKind prog w Key where
  is := keyIs
  hash := keyH w
  inj := fun v a b ha hb => by
    rcases keyIs_shape ha with ⟨i, t, rfl, rfl⟩ | ⟨x, t, rfl, rfl⟩
    · rcases keyIs_shape hb with ⟨j, u, rfl, e⟩ | ⟨y, u, rfl, e⟩
      · injection e with e1 _; rw [e1]
      · exact nomatch e
    · rcases keyIs_shape hb with ⟨j, u, rfl, e⟩ | ⟨y, u, rfl, e⟩
      · exact nomatch e
      · injection e with e1 _; rw [e1]
  byValue := fun k v h => by
    rcases keyIs_shape h with ⟨i, t, rfl, rfl⟩ | ⟨x, t, rfl, rfl⟩ <;> rfl
  pyHash := fun hv h => by
    rcases keyIs_shape hv with ⟨i, t, rfl, rfl⟩ | ⟨x, t, rfl, rfl⟩
    · exact wpAny_pyHash_int h
    · exact wpAny_pyHash_str h
  eqBool := fun hu hv h => by
    rcases keyIs_shape hu with ⟨i, t, rfl, rfl⟩ | ⟨x, t, rfl, rfl⟩
    · rcases keyIs_shape hv with ⟨j, u, rfl, rfl⟩ | ⟨y, u, rfl, rfl⟩
      · rw [key_ll] at h; exact wpAny_eqBool_int h
      · rw [key_lr] at h; exact SeqAt.EqAt.int_str i t y u _ _ _ _ h
    · rcases keyIs_shape hv with ⟨j, u, rfl, rfl⟩ | ⟨y, u, rfl, rfl⟩
      · rw [key_rl] at h; exact SeqAt.EqAt.str_int x t j u _ _ _ _ h
      · rw [key_rr] at h; exact wpAny_eqBool_str h
  «strs» := fun k x t v h => by
    rcases keyIs_shape h with ⟨i, u, rfl, e⟩ | ⟨y, u, rfl, e⟩
    · exact nomatch e
    · injection e with e1 _
      subst e1
      cases v <;> rfl
end L2
namespace L2
open PySem PySem.Spec PyProof.Rows
inductive V where
  | non | bl (b : Bool) | int (i : Int) | str (x : Str) | byt (b : Array UInt8) | flt (b : UInt64) | ref (a : Addr) | ty (n : String)
  deriving DecidableEq
noncomputable def RelV : V → Value → Prop
  | .non, u => u = Value.none
  | .bl b, u => u = Value.bool b
  | .int i, u => ∃ t, u = Value.int i t
  | .str x, u => ∃ t, u = Value.str x t
  | .byt b, u => ∃ t, u = Value.bytes b t
  | .flt b, u => ∃ t, u = Value.float b t
  | .ref a, u => u = Value.ref a
  | .ty n, u => u = Value.type n
noncomputable abbrev Vals : List V → List Value → Prop := Paired RelV
theorem Vals.length {xs : List V} {us : List Value} (r : Vals xs us) : xs.length = us.length := Paired.length r
theorem Vals.get : ∀ {xs : List V} {us : List Value} {i : Nat} {x : V}, Vals xs us → xs[i]? = some x → ∃ u, us[i]? = some u ∧ RelV x u
  | _, _, _, _, .nil, e => by simp at e
  | _, _, 0, _, .cons r _, e => by simp at e; subst e; exact ⟨_, rfl, r⟩
  | _, _, i + 1, x, .cons _ t, e => by
    obtain ⟨u, h1, h2⟩ := Vals.get (i := i) (x := x) t (by simpa using e)
    exact ⟨u, by simpa using h1, h2⟩
theorem Vals.set {x : V} {u : Value} (r : RelV x u) : ∀ {xs : List V} {us : List Value} (i : Nat), Vals xs us → Vals (xs.set i x) (us.set i u)
  | _, _, _, .nil => .nil
  | _, _, 0, .cons _ t => .cons r t
  | _, _, i + 1, .cons q t => .cons q (Vals.set r i t)
theorem Vals.append {xs ys : List V} {us ws : List Value} (h : Vals xs us) (s : Vals ys ws) : Vals (xs ++ ys) (us ++ ws) := by
  induction h with
  | nil => exact s
  | cons r _ ih => exact .cons r ih
theorem Vals.take : ∀ {xs : List V} {us : List Value} (n : Nat), Vals xs us → Vals (xs.take n) (us.take n)
  | _, _, 0, _ => .nil
  | _, _, _ + 1, .nil => .nil
  | _, _, n + 1, .cons r t => .cons r (Vals.take n t)
theorem Vals.drop : ∀ {xs : List V} {us : List Value} (n : Nat), Vals xs us → Vals (xs.drop n) (us.drop n)
  | _, _, 0, r => r
  | _, _, _ + 1, .nil => .nil
  | _, _, n + 1, .cons _ t => Vals.drop n t
noncomputable def RelO : Option V → Option Value → Prop
  | some v, some u => RelV v u
  | none, none => True
  | _, _ => False
noncomputable def KV {κ : Type} : List (κ × V) → List (κ × Value) → Prop := Paired fun (p : κ × V) (q : κ × Value) => p.1 = q.1 ∧ RelV p.2 q.2
noncomputable def kV : Key → V
  | .inl i => .int i
  | .inr x => .str x
inductive HO where
  | lst (xs : List V)
  | tup (xs : List V)
  | dK (kvs : List (Key × V)) | dT (kvs : List (List Key × V))
  | set (S : Int → Bool) (n : Nat)
  | ins (C dx : Addr) (fs : List (Str × V))
  | own (x : Addr)
  | xd (fs : List (Str × V))
  | met (f x : Addr)
  | rng (lo hi : Int)
  | frz (o : Obj) (u : HO)
  | tbl (ps : Array Value)
  | ext (φ : Heap → Prop)
noncomputable abbrev Hp := Addr → Option HO
noncomputable def upd (H : Hp) (a : Addr) (o : HO) : Hp := fun b => if b = a then some o else H b
theorem upd_same {H : Hp} {a : Addr} {o : HO} : upd H a o a = some o := by unfold upd; rw [if_pos rfl]
theorem upd_ne {H : Hp} {a b : Addr} {o : HO} (h : b ≠ a) : upd H a o b = H b := by unfold upd; rw [if_neg h]
theorem upd_upd {H : Hp} {a : Addr} {o u : HO} : upd (upd H a o) a u = upd H a u := by
  funext b; unfold upd; split <;> rfl
theorem ne_of {H : Hp} {a b : Addr} {o u : HO} (h : H a = some o) (h' : H b = some u) (d : o ≠ u) : a ≠ b := by
  intro e; subst e; rw [h] at h'; exact d (Option.some.inj h')
theorem ne_of_none {H : Hp} {a b : Addr} {o : HO} (h : H a = some o) (h' : H b = none) : a ≠ b := by
  intro e; subst e; rw [h] at h'; cases h'
section
variable (P : Program) (w : World)
noncomputable def ObjOk (H : Hp) (h : Heap) (a : Addr) : HO → Prop
  | .lst xs => xs.length ≤ sizeLine ∧ ∃ (its : List Value) (n : Nat), Vals xs its ∧ h.get? a = some { cls := .type "list", data := .seq its.toArray n }
  | .tup xs => xs.length ≤ sizeLine ∧ ∃ its : List Value, Vals xs its ∧ IsTup h a its.toArray
  | .dK kvs => kvs.length ≤ sizeLine ∧ (a == sysModules) = false ∧ ∃ vs, KV kvs vs ∧ h.DictOf (mixKind P w) a vs
  | .dT kvs => kvs.length ≤ sizeLine ∧ (a == sysModules) = false ∧ ∃ xs : List (List Key × Addr × Value),
      Paired (fun (p : List Key × V) (q : List Key × Addr × Value) => p.1 = q.1 ∧ H q.2.1 = some (.tup (p.1.map kV)) ∧ RelV p.2 q.2.2) kvs xs ∧
      ∃ o es ep, h.get? a = some o ∧ o.ExactDict ∧ o.data = .dict es ep ∧ es.toList = xs.map (entryOfKey (tupleKind (mixKind P w))) ∧ (xs.map (·.1)).Nodup
  | .set S n => h.SetOf (intKind P w) a S n
  | .ins C dx fs => H dx = some (.own a) ∧ fs.length ≤ 1000 ∧ dx ≠ a ∧ h.get? a = some (PySem.W.instObj C dx) ∧
      ∃ mA, h.Ns1 dx mA ∧ (∀ f, RelO (fs.lookup f) (mA f)) ∧ PySem.Within mA (fs.map (·.1))
  | .own _ => ∃ o, h.get? a = some o
  | .xd fs => ∃ mA, h.Ns1 a mA ∧ ∀ f, RelO (fs.lookup f) (mA f)
  | .rng lo hi => ∃ t u v, h.get? a = some { cls := .type "range", data := .fields #[.int lo t, .int hi u, .int 1 v] }
  | .frz o u => h.get? a = some o ∧ ObjOk H h a u
  | .tbl ps => h.get? a = some { cls := .none, data := .fields ps }
  | .met f x => h.get? a = some (PySem.W.methodObj (.ref f) (.ref x))
  | .ext φ => φ h ∧ (∃ o, h.get? a = some o) ∧ ∀ h1 h2 : Heap, φ h1 → (∀ o, h1.get? a = some o → h2.get? a = some o) → φ h2
noncomputable def HOk (H : Hp) (h : Heap) : Prop := ∀ a o, H a = some o → ObjOk P w H h a o
end
section
variable {P : Program} {w : World} {H H' : Hp} {h h' : Heap} {a : Addr} {o : HO}
theorem ObjOk.lt (x : ObjOk P w H h a o) : a < h.objs.size := by
  cases o with
  | lst xs => obtain ⟨_, _, _, _, e⟩ := x; exact Heap.lt_size e
  | tup xs => obtain ⟨_, _, _, p⟩ := x; exact p.lt
  | dK kvs => obtain ⟨_, _, _, _, o, _, _, e, _⟩ := x; exact Heap.lt_size e
  | dT kvs => obtain ⟨_, _, _, _, o, _, _, e, _⟩ := x; exact Heap.lt_size e
  | set S n => obtain ⟨o, _, _, _, e, _⟩ := x; exact Heap.lt_size e
  | ins C dx fs => obtain ⟨_, _, _, e, _⟩ := x; exact Heap.lt_size e
  | own y => obtain ⟨_, e⟩ := x; exact Heap.lt_size e
  | xd fs => obtain ⟨_, ⟨_, _, _, e, _⟩, _⟩ := x; exact Heap.lt_size e
  | rng lo hi => obtain ⟨_, _, _, e⟩ := x; exact Heap.lt_size e
  | frz ob u => obtain ⟨e, _⟩ := x; exact Heap.lt_size e
  | tbl ps => exact Heap.lt_size (show h.get? a = some _ from x)
  | met f y => exact Heap.lt_size (show h.get? a = some _ from x)
  | ext φ => obtain ⟨_, ⟨_, e⟩, _⟩ := x; exact Heap.lt_size e
theorem Paired.mapP {α β : Type} {F G : α → β → Prop} {l₁ : List α} {l₂ : List β} (h : Paired F l₁ l₂) (f : ∀ a b, F a b → G a b) : Paired G l₁ l₂ := by
  induction h with
  | nil => exact .nil
  | cons r _ ih => exact .cons (f _ _ r) ih
theorem ObjOk.stay (x : ObjOk P w H h a o) (k : ∀ b u, (b = a ∨ H b = some (.own a)) → h.get? b = some u → h'.get? b = some u)
    (ho : ∀ b, H b = some (.own a) → H' b = some (.own a)) (ht : ∀ b xs, H b = some (.tup xs) → H' b = some (.tup xs)) : ObjOk P w H' h' a o := by
  induction o with
  | lst xs => obtain ⟨z, its, n, r, e⟩ := x; exact ⟨z, its, n, r, k _ _ (.inl rfl) e⟩
  | tup xs => obtain ⟨z, its, r, ob, e, c⟩ := x; exact ⟨z, its, r, ob, k _ _ (.inl rfl) e, c⟩
  | dK kvs => obtain ⟨z, y, vs, r, ob, es, ep, e, c⟩ := x; exact ⟨z, y, vs, r, ob, es, ep, k _ _ (.inl rfl) e, c⟩
  | dT kvs =>
    obtain ⟨z, y, xs, r, ob, es, ep, e, c⟩ := x
    exact ⟨z, y, xs, Paired.mapP r fun p q z => ⟨z.1, ht _ _ z.2.1, z.2.2⟩, ob, es, ep, k _ _ (.inl rfl) e, c⟩
  | set S n => obtain ⟨ob, es, ep, t, e, c⟩ := x; exact ⟨ob, es, ep, t, k _ _ (.inl rfl) e, c⟩
  | ins C dx fs =>
    obtain ⟨d, z, ne, e, mA, ⟨od, es, ep, e2, c⟩, r⟩ := x
    exact ⟨ho _ d, z, ne, k _ _ (.inl rfl) e, mA, ⟨od, es, ep, k _ _ (.inr d) e2, c⟩, r⟩
  | own y => obtain ⟨ob, e⟩ := x; exact ⟨ob, k _ _ (.inl rfl) e⟩
  | xd fs => obtain ⟨mA, ⟨od, es, ep, e, c⟩, r⟩ := x; exact ⟨mA, ⟨od, es, ep, k _ _ (.inl rfl) e, c⟩, r⟩
  | rng lo hi => obtain ⟨t, u, v, e⟩ := x; exact ⟨t, u, v, k _ _ (.inl rfl) e⟩
  | frz ob u ih => obtain ⟨e, q⟩ := x; exact ⟨k _ _ (.inl rfl) e, ih q⟩
  | tbl ps =>
    have e : h.get? a = some { cls := .none, data := .fields ps } := x
    show h'.get? a = some { cls := .none, data := .fields ps }
    exact k a _ (.inl rfl) e
  | met f y =>
    have e : h.get? a = some (PySem.W.methodObj (.ref f) (.ref y)) := x
    show h'.get? a = some (PySem.W.methodObj (.ref f) (.ref y))
    exact k a _ (.inl rfl) e
  | ext φ => obtain ⟨p, ⟨o, e⟩, st⟩ := x; exact ⟨st _ _ p fun o q => k _ _ (.inl rfl) q, ⟨o, k _ _ (.inl rfl) e⟩, st⟩
theorem HOk.lt (x : HOk P w H h) (e : H a = some o) : a < h.objs.size := (x a o e).lt
theorem HOk.fresh (x : HOk P w H h) (e : h.objs.size ≤ a) : H a = none := by
  cases q : H a with
  | none => rfl
  | some u => exact absurd (Nat.lt_of_lt_of_le (x.lt q) e) (Nat.lt_irrefl _)
theorem HOk.kept (x : HOk P w H h) (k : ∀ b u, h.get? b = some u → h'.get? b = some u) : HOk P w H h' := fun a o e =>
  (x a o e).stay (fun b u _ q => k b u q) (fun _ q => q) fun _ _ q => q
theorem HOk.laid (x : HOk P w H h) (k : ∀ b u, h.get? b = some u → h'.get? b = some u) (hp : h.objs.size ≤ a) (new : ObjOk P w (upd H a o) h' a o) : HOk P w (upd H a o) h' := fun b u e => by
  have hn := x.fresh hp
  by_cases hb : b = a
  · subst hb; rw [upd_same] at e; cases e; exact new
  · rw [upd_ne hb] at e
    exact (x b u e).stay (fun c v _ q => k c v q) (fun c q => by rw [upd_ne (ne_of_none q hn)]; exact q) fun c xs q => by rw [upd_ne (ne_of_none q hn)]; exact q
end
noncomputable def Rd (H : Hp) (a : Addr) (u : HO) : Prop := H a = some u ∨ ∃ o, H a = some (.frz o u)
theorem Rd.ok {P : Program} {w : World} {H : Hp} {h : Heap} {a : Addr} {u : HO} (r : Rd H a u) (x : HOk P w H h) : ObjOk P w H h a u := by
  rcases r with r | ⟨o, r⟩
  · exact x a u r
  · obtain ⟨_, q⟩ := x a _ r
    exact q
noncomputable def Mut : Option HO → Prop
  | some (.lst _) => True
  | some (.dK _) => True
  | some (.dT _) => True
  | some (.set _ _) => True
  | some (.ins _ _ _) => True
  | some (.ext _) => True
  | _ => False
section
variable {P : Program} {w : World} {H : Hp} {h h' : Heap} {x e : Addr} {o' : HO}
theorem HOk.write (ok : HOk P w H h) (mu : Mut (H x)) (he : e = x ∨ H e = some (.own x)) (k : ∀ b u, b ≠ e → h.get? b = some u → h'.get? b = some u) (heo : ∃ u, h'.get? e = some u)
    (new : ObjOk P w (upd H x o') h' x o') : HOk P w (upd H x o') h' := fun b u q => by
  have nown : ∀ c y, H c = some (.own y) → c ≠ x := fun c y r z => by subst z; rw [r] at mu; exact mu
  have ntup : ∀ c xs, H c = some (.tup xs) → c ≠ x := fun c xs r z => by subst z; rw [r] at mu; exact mu
  by_cases hb : b = x
  · subst hb; rw [upd_same] at q; cases q; exact new
  · rw [upd_ne hb] at q
    by_cases hbe : b = e
    · have q' : H b = some (.own x) := by
        rcases he with z | z
        · exact absurd (hbe.trans z) hb
        · rw [hbe]; exact z
      rw [q] at q'; cases q'
      obtain ⟨v, hv⟩ := heo
      exact ⟨v, by rw [hbe]; exact hv⟩
    · refine (ok b u q).stay (fun c v hc r => k c v ?_ r) (fun c r => by rw [upd_ne (nown c b r)]; exact r) fun c xs r => by rw [upd_ne (ntup c xs r)]; exact r
      rcases hc with rfl | hc
      · exact hbe
      · rintro rfl
        rcases he with z | z
        · exact nown c b hc z
        · rw [hc] at z; cases z; exact hb rfl
end
structure Un (fs ex : List Addr) (H H' : Hp) (h h' : Heap) : Prop where
  keep : ∀ b o, h.get? b = some o → H b = none → b ∉ fs → b ∉ ex → h'.get? b = some o
  slot : ∀ b o, h.get? b = some o → H b = none → b ∈ fs → b ∉ ex → ∃ sl, h'.get? b = some { o with slots := sl }
  free : ∀ b o, h.get? b = some o → H b = none → b ∉ ex → H' b = none
  there : ∀ b o, h.get? b = some o → b ∉ ex → ∃ o', h'.get? b = some o'
  tups : ∀ b xs, H b = some (.tup xs) → H' b = some (.tup xs)
  frzs : ∀ b o u, H b = some (.frz o u) → H' b = some (.frz o u)
  tbls : ∀ b ps, H b = some (.tbl ps) → ∃ more, H' b = some (.tbl (ps ++ more))
section
variable {fs fs' ex ex' : List Addr} {H H1 H2 : Hp} {h h1 h2 h' : Heap} {a x e : Addr} {o : HO}
theorem Un.any (u : Un fs ex H H1 h h1) {b : Addr} {ob : Obj} (q : h.get? b = some ob) (n : H b = none) (hx : b ∉ ex) : ∃ sl, h1.get? b = some { ob with slots := sl } := by
  by_cases hb : b ∈ fs
  · exact u.slot b ob q n hb hx
  · exact ⟨ob.slots, u.keep b ob q n hb hx⟩
theorem Un.kept (k : ∀ b u, h.get? b = some u → h'.get? b = some u) : Un fs ex H H h h' :=
  ⟨fun b ob q _ _ _ => k b ob q, fun b ob q _ _ _ => ⟨ob.slots, k b ob q⟩, fun _ _ _ n _ => n, fun b ob q _ => ⟨ob, k b ob q⟩, fun _ _ q => q, fun _ _ _ q => q, fun _ ps q => ⟨#[], by rw [q]; simp⟩⟩
theorem Un.refl : Un fs ex H H h h := Un.kept fun _ _ q => q
theorem Un.laid (k : ∀ b u, h.get? b = some u → h'.get? b = some u) (hp : h.objs.size ≤ a) (hn : H a = none) : Un fs ex H (upd H a o) h h' where
  keep := fun b u q _ _ _ => k b u q
  slot := fun b u q _ _ _ => ⟨u.slots, k b u q⟩
  free := fun b u q n _ => by rw [upd_ne (Nat.ne_of_lt (Nat.lt_of_lt_of_le (Heap.lt_size q) hp))]; exact n
  there := fun b u q _ => ⟨u, k b u q⟩
  tups := fun b xs q => by rw [upd_ne (ne_of_none q hn)]; exact q
  frzs := fun b u xs q => by rw [upd_ne (ne_of_none q hn)]; exact q
  tbls := fun b ps q => ⟨#[], by rw [upd_ne (ne_of_none q hn), q]; simp⟩
theorem Un.write (mu : Mut (H x)) (he : e = x ∨ H e = some (.own x)) (k : ∀ b u, b ≠ e → h.get? b = some u → h'.get? b = some u) (heo : ∃ u, h'.get? e = some u) : Un fs ex H (upd H x o) h h' := by
  have hx : ∀ b, H b = none → b ≠ x := fun b n z => by subst z; rw [n] at mu; exact mu
  have hb : ∀ b, H b = none → b ≠ e := fun b n z => by
    subst z
    rcases he with r | r
    · exact hx b n r
    · rw [n] at r; cases r
  have hm : ∀ b u, H b = some u → ¬ Mut (some u) → b ≠ x := fun b u q nm z => by subst z; rw [q] at mu; exact nm mu
  refine ⟨fun b u q n _ _ => k b u (hb b n) q, fun b u q n _ _ => ⟨u.slots, k b u (hb b n) q⟩, fun b u q n _ => by rw [upd_ne (hx b n)]; exact n, fun b u q _ => ?_,
    fun b xs q => by rw [upd_ne (hm b _ q fun z => z)]; exact q, fun b u xs q => by rw [upd_ne (hm b _ q fun z => z)]; exact q, fun b ps q => ⟨#[], by rw [upd_ne (hm b _ q fun z => z), q]; simp⟩⟩
  by_cases hbe : b = e
  · subst hbe; exact heo
  · exact ⟨u, k b u hbe q⟩
end
noncomputable def trk (h : Heap) (H : Hp) : List Addr := (List.range h.objs.size).filter fun a => (H a).isSome
noncomputable def hidT (h : Heap) (H : Hp) : Heap := PySem.W.hideAll h (trk h H)
theorem hidT_size (h : Heap) (H : Hp) : (hidT h H).objs.size = h.objs.size := PySem.W.hideAll_size _ _
theorem hidT_get {h : Heap} {H : Hp} {b : Addr} {o : Obj} (e : h.get? b = some o) (n : H b = none) : (hidT h H).get? b = some o :=
  PySem.W.hideAll_get _ e fun hm => by
    have q : (H b).isSome = true := (List.mem_filter.mp hm).2
    rw [n] at q; simp at q
theorem of_hidT {h : Heap} {H : Hp} {b : Addr} {o : Obj} (e : (hidT h H).get? b = some o) : h.get? b = some o ∧ H b = none := by
  have e' : h.get? b = some o := PySem.W.of_hideAll (trk h H) e
  refine ⟨e', ?_⟩
  cases q : H b with
  | none => rfl
  | some x =>
    have hm : b ∈ trk h H := List.mem_filter.mpr ⟨List.mem_range.mpr (Heap.lt_size e'), by simp [q]⟩
    have z : (hidT h H).get? b = none := PySem.W.hideAll_none (trk h H) hm
    rw [z] at e; cases e
end L2
namespace L2
open PySem PySem.Spec PyProof.Rows
structure Mod (K : PySem.W.Frag) (mg : Str → Option Value) (base : Heap) : Prop where
  kin : K.In base
  glob : base.Ns mainGlobals mg
  blt : ∃ mb, base.Ns builtinsNs mb ∧ ∀ x : Str, x ≠ "__name__" → mb x = bootBuiltins x
  nolimit : base.NoLimit
structure Cx where
  prog : Program
  w : World
  K : PySem.W.Frag
  mg : Str → Option Value
  base : Heap
  A : Around
  N : List Str
  s₀ : Shared
  H₀ : Hp
  env : Env
  outer : List Env
  stack : List Env
  ex : List Addr
  fn : Str → Bool
  calm : Bool
  pn : List (Addr × Obj)
  xe : Value → Shared → Prop
noncomputable def frs (l : List Env) : List Addr := l.filterMap (·.frame)
noncomputable abbrev Cx.fs (X : Cx) : List Addr := frs X.outer
noncomputable def Vis (sc : Scope) (x : Str) : Prop := sc.names.lookup x = some .local ∨ sc.names.lookup x = some .cell ∨ sc.names.lookup x = some .free
noncomputable def Loc (sc : Scope) (x : Str) : Prop := sc.names.lookup x = some .local ∨ sc.names.lookup x = some .cell
noncomputable def Look (env : Env) (h : Heap) (m : Str → Option Value) (x : Str) (u : Value) : Prop :=
  (env.kindOf x = some .local ∧ m x = some u) ∨ ((env.kindOf x = some .cell ∨ env.kindOf x = some .free) ∧ ∃ c, env.cells.lookup x = some c ∧ h.IsCell c (some u))
structure Cx.Ok (X : Cx) : Prop where
  mod : Mod X.K X.mg X.base
  kind : X.env.scope.kind = .function
  glob : X.env.globals = mainGlobals
  blt : X.env.builtins = builtinsNs
  above : X.s₀.heap.objs.size ≤ X.env.locals
  inj : ∀ x y c, X.env.cells.lookup x = some c → X.env.cells.lookup y = some c → x = y
  has : ∀ x, (X.env.kindOf x = some .cell ∨ X.env.kindOf x = some .free) → ∃ c, X.env.cells.lookup x = some c
  cab : ∀ x c, X.fn x = true → X.env.cells.lookup x = some c → X.s₀.heap.objs.size ≤ c
  hd : X.calm = true → X.A.handled = none
  frames : X.A.frames = some X.stack
  stk : X.stack = X.outer ∨ (X.stack = X.env :: X.outer ∧ X.env.frame = some X.env.locals)
  exf : ∀ b ∈ X.ex, b ≠ X.env.locals ∧ ∀ x c, X.env.cells.lookup x = some c → c ≠ b
  bs : ∀ b o, X.base.get? b = some o → X.s₀.heap.get? b = some o ∧ X.H₀ b = none
  bsz : X.base.objs.size ≤ X.s₀.heap.objs.size
  noex : ∀ b o, X.base.get? b = some o → b ∉ X.ex
  exfs : ∀ b ∈ X.ex, b ∉ X.fs
  funs : X.s₀.heap.FunFrames X.base X.outer
  frf : ∀ b ∈ X.fs, X.H₀ b = none
structure Inv (X : Cx) (pins : List (Addr × Obj)) (σ : List (Option V)) (H : Hp) (s : Shared) : Prop where
  ok : X.Ok
  os : s.os = X.s₀.os
  bare : AllBare s.gens
  base : Un X.fs X.ex X.H₀ H X.s₀.heap s.heap
  loc : ∃ m, s.heap.Ns X.env.locals m ∧ ∀ (i : Nat) (x : Str) (v : V), X.N[i]? = some x → σ[i]? = some (some v) → Vis X.env.scope x → ∃ u, RelV v u ∧ Look X.env s.heap m x u
  cell : ∀ x c, X.env.cells.lookup x = some c → ∃ v, s.heap.IsCell c v
  free : H X.env.locals = none
  freeC : ∀ x c, X.env.cells.lookup x = some c → H c = none
  pin : ∀ p ∈ X.pn ++ pins, s.heap.get? p.1 = some p.2 ∧ H p.1 = none ∧ p.1 ≠ X.env.locals ∧ p.1 ∉ X.fs ∧ ∀ v, p.2.data ≠ .cell v
  hok : HOk X.prog X.w H s.heap
  len : σ.length = X.N.length
section
variable {X : Cx} {pins : List (Addr × Obj)} {σ : List (Option V)} {H H' : Hp} {s : Shared} {h' : Heap}
theorem Cx.Ok.nofr (ok : X.Ok) {b : Addr} {o : Obj} (e : X.base.get? b = some o) : b ∉ X.fs := fun hb => by
  have := (ok.funs.mem hb).1
  rw [e] at this; cases this
theorem Inv.bs (I : Inv X pins σ H s) : ∀ b o, X.base.get? b = some o → s.heap.get? b = some o ∧ H b = none := fun b o e =>
  ⟨I.base.keep b o (I.ok.bs b o e).1 (I.ok.bs b o e).2 (I.ok.nofr e) (I.ok.noex b o e), I.base.free b o (I.ok.bs b o e).1 (I.ok.bs b o e).2 (I.ok.noex b o e)⟩
theorem Inv.bk (I : Inv X pins σ H s) : ∀ b o, X.base.get? b = some o → s.heap.get? b = some o := fun b o e => (I.bs b o e).1
theorem Inv.mod (I : Inv X pins σ H s) : Mod X.K X.mg X.base := I.ok.mod
theorem Inv.kIn (I : Inv X pins σ H s) : X.K.In s.heap := I.ok.mod.kin.keeps I.bk
theorem Inv.lt (I : Inv X pins σ H s) : X.env.locals < s.heap.objs.size := let ⟨_, hn, _⟩ := I.loc; hn.lt
theorem Inv.sz (I : Inv X pins σ H s) : X.s₀.heap.objs.size ≤ s.heap.objs.size := Nat.le_trans I.ok.above (Nat.le_of_lt I.lt)
theorem Inv.nofs (I : Inv X pins σ H s) {a : Addr} (h : s.heap.objs.size ≤ a) : a ∉ X.fs := fun hb => by
  obtain ⟨_, o, ho, _⟩ := I.ok.funs.mem hb
  exact absurd (Nat.lt_of_lt_of_le (Heap.lt_size ho) (Nat.le_trans I.sz h)) (Nat.lt_irrefl _)
theorem Inv.cne (I : Inv X pins σ H s) : ∀ x c, X.env.cells.lookup x = some c → c ≠ X.env.locals := fun x c e z => by
  obtain ⟨v, o, ho, hd⟩ := I.cell x c e
  obtain ⟨m, ⟨o', es, ep, ho', hd', _⟩, _⟩ := I.loc
  rw [z, ho'] at ho; cases ho; rw [hd'] at hd; cases hd
theorem Inv.funs (I : Inv X pins σ H s) : s.heap.FunFrames X.base X.outer := by
  have all : ∀ (l : List Env), (∀ b ∈ frs l, b ∈ X.fs) → X.s₀.heap.FunFrames X.base l → s.heap.FunFrames X.base l := by
    intro l
    induction l with
    | nil => intro _ _; trivial
    | cons env r ih =>
      intro hs hl
      obtain ⟨hk, ⟨L, o, hf, hn, ho, hd⟩, hr⟩ := hl
      have hL : L ∈ X.fs := hs L (by unfold frs; rw [List.filterMap_cons, hf]; exact List.mem_cons_self)
      obtain ⟨sl, e⟩ := I.base.slot L o ho (I.ok.frf L hL) hL fun z => I.ok.exfs L z hL
      exact ⟨hk, ⟨L, _, hf, hn, e, hd⟩, ih (fun b hb => hs b (by unfold frs; rw [List.filterMap_cons, hf]; exact List.mem_cons_of_mem _ hb)) hr⟩
  exact all X.outer (fun _ hb => hb) I.ok.funs
theorem Inv.stack (I : Inv X pins σ H s) : s.heap.FunFrames X.base X.stack := by
  rcases I.ok.stk with e | ⟨e, hf⟩
  · rw [e]; exact I.funs
  · rw [e]
    obtain ⟨m, hn, _⟩ := I.loc
    refine .cons (by rw [I.ok.kind]; decide) hf hn ?_ I.funs
    exact Heap.get?_none_of_le (Nat.le_trans I.ok.bsz I.ok.above)
theorem Inv.stkSub (I : Inv X pins σ H s) : ∀ b ∈ frs X.stack, b ∈ X.env.locals :: X.fs := fun b hb => by
  rcases I.ok.stk with e | ⟨e, hf⟩
  · rw [e] at hb; exact List.mem_cons_of_mem _ hb
  · rw [e] at hb
    unfold frs at hb
    rw [List.filterMap_cons, hf] at hb
    exact hb
theorem Inv.stkFree (I : Inv X pins σ H s) : ∀ b ∈ frs X.stack, H b = none := fun b hb => by
  rcases List.mem_cons.mp (I.stkSub b hb) with e | hb
  · rw [e]; exact I.free
  · obtain ⟨_, o, ho, _⟩ := I.ok.funs.mem hb
    exact I.base.free b o ho (I.ok.frf b hb) fun z => I.ok.exfs b z hb
theorem Inv.step {g' : Array GenState} {t' : Nat} {d' : Drawn} {ch : List Addr} (I : Inv X pins σ H s)
    (hch : ∀ b ∈ ch, (b ∈ X.ex ∨ X.s₀.heap.objs.size ≤ b) ∧ b ≠ X.env.locals ∧ (∀ x c, X.env.cells.lookup x = some c → c ≠ b) ∧ ∀ p ∈ X.pn ++ pins, p.1 ≠ b)
    (keep : ∀ b o, b ≠ X.env.locals → b ∉ X.fs → b ∉ ch → s.heap.get? b = some o → H b = none → h'.get? b = some o)
    (slot : ∀ b o, b ≠ X.env.locals → b ∈ X.fs → b ∉ ch → s.heap.get? b = some o → H b = none → ∃ sl, h'.get? b = some { o with slots := sl }) (free : ∀ b o, b ∉ ch → s.heap.get? b = some o → H b = none → H' b = none)
    (there : ∀ b o, b ∉ ch → s.heap.get? b = some o → ∃ o', h'.get? b = some o')
    (tups : ∀ b xs, H b = some (.tup xs) → H' b = some (.tup xs)) (frzs : ∀ b o u, H b = some (.frz o u) → H' b = some (.frz o u)) (tbls : ∀ b ps, H b = some (.tbl ps) → ∃ more, H' b = some (.tbl (ps ++ more)))
    (ns : ∀ m, s.heap.Ns X.env.locals m → h'.Ns X.env.locals m) (hok : HOk X.prog X.w H' h') (hg : AllBare g') :
    Inv X pins σ H' { s with heap := h', gens := g', drawn := d', toks := t' } := by
  have neL : ∀ b o, X.s₀.heap.get? b = some o → b ≠ X.env.locals := fun b o e => Nat.ne_of_lt (Nat.lt_of_lt_of_le (Heap.lt_size e) I.ok.above)
  have neC : ∀ b o, X.s₀.heap.get? b = some o → b ∉ X.ex → b ∉ ch := fun b o e hx hb => by
    rcases (hch b hb).1 with z | z
    · exact hx z
    · exact absurd (Nat.lt_of_lt_of_le (Heap.lt_size e) z) (Nat.lt_irrefl _)
  have cellK : ∀ x c, X.env.cells.lookup x = some c → ∀ v, s.heap.IsCell c v → h'.IsCell c v := fun x c e v ⟨o, ho, hd⟩ => by
    have nch : c ∉ ch := fun z => (hch c z).2.2.1 x c e rfl
    by_cases hc : c ∈ X.fs
    · obtain ⟨sl, q⟩ := slot c o (I.cne x c e) hc nch ho (I.freeC x c e)
      exact ⟨_, q, hd⟩
    · exact ⟨o, keep c o (I.cne x c e) hc nch ho (I.freeC x c e), hd⟩
  refine ⟨I.ok, I.os, hg, ⟨fun b o e n hb hx => ?_, fun b o e n hb hx => ?_, fun b o e n hx => ?_, fun b o e hx => ?_, fun b xs e => tups b xs (I.base.tups b xs e), fun b o xs e => frzs b o xs (I.base.frzs b o xs e), fun b ps e => ?_⟩, ?_, fun x c e => ?_, ?_, fun x c e => ?_, fun p hp => ?_, hok, I.len⟩
  · exact keep b o (neL b o e) hb (neC b o e hx) (I.base.keep b o e n hb hx) (I.base.free b o e n hx)
  · obtain ⟨sl, e1⟩ := I.base.slot b o e n hb hx
    obtain ⟨sl', e2⟩ := slot b _ (neL b o e) hb (neC b o e hx) e1 (I.base.free b o e n hx)
    exact ⟨sl', e2⟩
  · obtain ⟨o', e1⟩ := I.base.there b o e hx
    exact free b o' (neC b o e hx) e1 (I.base.free b o e n hx)
  · obtain ⟨o', e1⟩ := I.base.there b o e hx
    exact there b o' (neC b o e hx) e1
  · obtain ⟨m1, e1⟩ := I.base.tbls b ps e
    obtain ⟨m2, e2⟩ := tbls b _ e1
    exact ⟨m1 ++ m2, by rw [e2, Array.append_assoc]⟩
  · obtain ⟨m, hn, hl⟩ := I.loc
    refine ⟨m, ns m hn, fun i x v e1 e2 e3 => ?_⟩
    obtain ⟨u, r, l⟩ := hl i x v e1 e2 e3
    refine ⟨u, r, ?_⟩
    rcases l with l | ⟨k, c, e, z⟩
    · exact .inl l
    · exact .inr ⟨k, c, e, cellK x c e _ z⟩
  · obtain ⟨v, z⟩ := I.cell x c e
    exact ⟨v, cellK x c e v z⟩
  · obtain ⟨m, ⟨o, _, _, ho, _⟩, _⟩ := I.loc
    exact free _ o (fun z => (hch _ z).2.1 rfl) ho I.free
  · obtain ⟨v, o, ho, hd⟩ := I.cell x c e
    exact free c o (fun z => (hch c z).2.2.1 x c e rfl) ho (I.freeC x c e)
  · obtain ⟨e, n, ne, nf, d⟩ := I.pin p hp
    have nch : p.1 ∉ ch := fun z => (hch p.1 z).2.2.2 p hp rfl
    exact ⟨keep p.1 p.2 ne nf nch e n, free p.1 p.2 nch e n, ne, nf, d⟩
theorem Inv.un {t' : Nat} (I : Inv X pins σ H s) (u : Un X.fs [] H H' s.heap h') (hok : HOk X.prog X.w H' h') : Inv X pins σ H' { s with heap := h', toks := t' } := by
  obtain ⟨m, ⟨o, es, ep, ho, r⟩, _⟩ := id I.loc
  obtain ⟨sl, hL⟩ := u.any ho I.free (by simp)
  exact I.step (g' := s.gens) (d' := s.drawn) (ch := []) (fun _ z => nomatch z) (fun b o _ hb _ e n => u.keep b o e n hb (by simp)) (fun b o _ hb _ e n => u.slot b o e n hb (by simp)) (fun b o _ e n => u.free b o e n (by simp)) (fun b o _ e => u.there b o e (by simp)) u.tups u.frzs u.tbls (fun m' hm => by
    obtain ⟨o', es', ep', ho', r'⟩ := hm
    rw [ho] at ho'; cases ho'
    exact ⟨_, es', ep', hL, r'⟩) hok I.bare
theorem Inv.call {g' : Array GenState} {t' : Nat} {d' : Drawn} {ch : List Addr} (I : Inv X pins σ H s) (u : Un (frs X.stack) ch H H' s.heap h') (hok : HOk X.prog X.w H' h') (hg : AllBare g')
    (hch : ∀ b ∈ ch, (b ∈ X.ex ∨ X.s₀.heap.objs.size ≤ b) ∧ b ≠ X.env.locals ∧ (∀ x c, X.env.cells.lookup x = some c → c ≠ b) ∧ ∀ p ∈ X.pn ++ pins, p.1 ≠ b) :
    Inv X pins σ H' { s with heap := h', gens := g', drawn := d', toks := t' } := by
  obtain ⟨m, ⟨o, es, ep, ho, r⟩, _⟩ := id I.loc
  obtain ⟨sl, hL⟩ := u.any ho I.free fun z => (hch _ z).2.1 rfl
  exact I.step (ch := ch) hch (fun b o hL hb hc e n => u.keep b o e n (fun z => (List.mem_cons.mp (I.stkSub b z)).elim hL hb) hc) (fun b o _ _ hc e n => u.any e n hc) (fun b o hc e n => u.free b o e n hc) (fun b o hc e => u.there b o e hc) u.tups u.frzs u.tbls (fun m' hm => by
    obtain ⟨o', es', ep', ho', r'⟩ := hm
    rw [ho] at ho'; cases ho'
    exact ⟨_, es', ep', hL, r'⟩) hok hg
theorem Inv.turned {t' : Nat} {it : Addr} (I : Inv X pins σ H s) (k : ∀ b o, b ≠ it → s.heap.get? b = some o → h'.get? b = some o) (hn : H it = none) (hL : it ≠ X.env.locals)
    (h1 : it ∈ X.ex ∨ X.s₀.heap.objs.size ≤ it) (h2 : ∀ x c, X.env.cells.lookup x = some c → c ≠ it) (h3 : ∀ p ∈ X.pn ++ pins, p.1 ≠ it) : Inv X pins σ H { s with heap := h', toks := t' } := by
  have nit : ∀ b u, H b = some u → b ≠ it := fun b u e z => by rw [z, hn] at e; cases e
  refine I.step (g' := s.gens) (d' := s.drawn) (ch := [it]) (fun b hb => ?_) (fun b o _ _ hc e _ => k b o (fun z => hc (by simp [z])) e) (fun b o _ _ hc e _ => ⟨o.slots, k b o (fun z => hc (by simp [z])) e⟩) (fun _ _ _ _ n => n)
    (fun b o hc e => ⟨o, k b o (fun z => hc (by simp [z])) e⟩) (fun _ _ e => e) (fun _ _ _ e => e) (fun b ps e => ⟨#[], by rw [e]; simp⟩) (fun m hm => ?_) (fun b u e => ?_) I.bare
  · have e : b = it := by simpa using hb
    subst e
    exact ⟨h1, hL, h2, h3⟩
  · obtain ⟨o, es, ep, ho, r⟩ := hm
    exact ⟨o, es, ep, k _ o (Ne.symm hL) ho, r⟩
  · refine (I.hok b u e).stay (fun c v hc q => k c v ?_ q) (fun _ q => q) fun _ _ q => q
    rcases hc with z | z
    · rw [z]; exact nit b u e
    · exact nit c _ z
theorem Inv.tok (I : Inv X pins σ H s) (t : Nat) : Inv X pins σ H { s with toks := t } := I.un (h' := s.heap) (t' := t) Un.refl I.hok
theorem Inv.kept {t' : Nat} (I : Inv X pins σ H s) (k : ∀ b u, s.heap.get? b = some u → h'.get? b = some u) : Inv X pins σ H { s with heap := h', toks := t' } := I.un (Un.kept k) (I.hok.kept k)
theorem Inv.laid {a : Addr} {o : HO} {t' : Nat} (I : Inv X pins σ H s) (k : ∀ b u, s.heap.get? b = some u → h'.get? b = some u) (hp : s.heap.objs.size ≤ a) (new : ObjOk X.prog X.w (upd H a o) h' a o) :
    Inv X pins σ (upd H a o) { s with heap := h', toks := t' } := I.un (Un.laid k hp (I.hok.fresh hp)) (I.hok.laid k hp new)
theorem Inv.write {x e : Addr} {o : HO} {t' : Nat} (I : Inv X pins σ H s) (mu : Mut (H x)) (he : e = x ∨ H e = some (.own x)) (k : ∀ b u, b ≠ e → s.heap.get? b = some u → h'.get? b = some u) (heo : ∃ u, h'.get? e = some u)
    (new : ObjOk X.prog X.w (upd H x o) h' x o) : Inv X pins σ (upd H x o) { s with heap := h', toks := t' } := I.un (Un.write mu he k heo) (I.hok.write mu he k heo new)
theorem Inv.pins_of {pins' : List (Addr × Obj)} (I : Inv X pins σ H s) (h : ∀ p ∈ pins', s.heap.get? p.1 = some p.2 ∧ H p.1 = none ∧ p.1 ≠ X.env.locals ∧ p.1 ∉ X.fs ∧ ∀ v, p.2.data ≠ .cell v) : Inv X pins' σ H s :=
  ⟨I.ok, I.os, I.bare, I.base, I.loc, I.cell, I.free, I.freeC, fun p hp => (List.mem_append.mp hp).elim (fun z => I.pin p (List.mem_append_left _ z)) (h p), I.hok, I.len⟩
theorem nodup_ix {N : List Str} (hN : N.Nodup) {i j : Nat} {x : Str} (a : N[i]? = some x) (b : N[j]? = some x) : i = j := by
  obtain ⟨h1, e1⟩ := List.getElem?_eq_some_iff.mp a
  obtain ⟨h2, e2⟩ := List.getElem?_eq_some_iff.mp b
  exact (List.getElem_inj hN).mp (e1.trans e2.symm)
theorem store_ok2 {M : Model} {A : Around} {E : Value → Shared → Prop} {i : Nat} {x : Str} {v : V} {u : Value} {Q : Unit → Shared → Prop} (I : Inv X pins σ H s) (hN : X.N.Nodup) (hi : X.N[i]? = some x) (hx : Loc X.env.scope x) (r : RelV v u)
    (h : ∀ s', Inv X pins (σ.set i (some v)) H s' → (∃ a, Heap.SameBut a s.heap s'.heap ∧ (a = X.env.locals ∨ X.env.cells.lookup x = some a)) → Q () s') (hf : X.fn x = true ∨ X.env.scope.names.lookup x = some .local := by first | exact .inl rfl | exact .inr rfl | assumption) : wpAny M A (storeName X.env x u) Q E s := by
  obtain ⟨m, hn, hl⟩ := id I.loc
  have hcls : (X.env.scope.kind == .class || (X.env.scope.kind == .module && X.env.locals != X.env.globals)) = false := by rw [I.ok.kind]; rfl
  have hiσ : i < σ.length := by rw [I.len]; exact (List.getElem?_eq_some_iff.mp hi).1
  have cne := I.cne
  have tracked : ∀ {a : Addr} {h' : Heap}, (∃ o, s.heap.get? a = some o ∧ H a = none) → Heap.SameBut a s.heap h' → HOk X.prog X.w H h' := fun {a h'} ha hs b ob e => by
    obtain ⟨_, _, hfree⟩ := ha
    refine (I.hok b ob e).stay (fun c w' hc q => (hs.2 c ?_).trans q) (fun _ q => q) fun _ _ q => q
    rintro rfl
    rcases hc with rfl | hc
    · rw [hfree] at e; cases e
    · rw [hfree] at hc; cases hc
  rcases hx with hk | hk
  · refine wpAny_storeName_local hk hn (fun h' hn' hs => ?_) hcls
    obtain ⟨oL, _, _, hoL, _⟩ := id hn
    refine h _ ⟨I.ok, I.os, I.bare, ⟨fun b o e n hb hx => ?_, fun b o e n hb hx => ?_, I.base.free, fun b o e hx => ?_, I.base.tups, I.base.frzs, I.base.tbls⟩, ⟨_, hn', fun j y v' e1 e2 e3 => ?_⟩, fun y c e => ?_, I.free, I.freeC, fun p hp => ?_, tracked ⟨oL, hoL, I.free⟩ hs, by simpa using I.len⟩ ⟨_, hs, .inl rfl⟩
    · exact (hs.2 b (Nat.ne_of_lt (Nat.lt_of_lt_of_le (Heap.lt_size e) I.ok.above))).trans (I.base.keep b o e n hb hx)
    · obtain ⟨sl, e1⟩ := I.base.slot b o e n hb hx
      exact ⟨sl, (hs.2 b (Nat.ne_of_lt (Nat.lt_of_lt_of_le (Heap.lt_size e) I.ok.above))).trans e1⟩
    · obtain ⟨o', e1⟩ := I.base.there b o e hx
      exact ⟨o', (hs.2 b (Nat.ne_of_lt (Nat.lt_of_lt_of_le (Heap.lt_size e) I.ok.above))).trans e1⟩
    · by_cases hj : j = i
      · subst hj
        rw [hi] at e1; cases e1
        rw [List.getElem?_set_self hiσ] at e2
        cases e2
        exact ⟨u, r, .inl ⟨hk, by simp⟩⟩
      · rw [List.getElem?_set_ne (Ne.symm hj)] at e2
        obtain ⟨u', r', q⟩ := hl j y v' e1 e2 e3
        refine ⟨u', r', ?_⟩
        rcases q with ⟨k, e⟩ | ⟨k, c, e, z⟩
        · refine .inl ⟨k, ?_⟩
          have : y ≠ x := fun e => hj (nodup_ix hN e1 (e ▸ hi))
          simp [this, e]
        · exact .inr ⟨k, c, e, z.sameBut hs (cne y c e)⟩
    · obtain ⟨w', z⟩ := I.cell y c e
      exact ⟨w', z.sameBut hs (cne y c e)⟩
    · obtain ⟨e, n, ne, nf, d⟩ := I.pin p hp
      exact ⟨(hs.2 p.1 ne).trans e, n, ne, nf, d⟩
  · have hfn : X.fn x = true := by
      rcases hf with z | z
      · exact z
      · rw [z] at hk; cases hk
    obtain ⟨c, hc⟩ := I.ok.has x (.inl hk)
    obtain ⟨w', z⟩ := I.cell x c hc
    refine wpAny_storeName_cell I.ok.kind hk hc z (fun h' hc' hs => ?_)
    obtain ⟨oc, hoc, hocd⟩ := id z
    refine h { s with heap := h' } ⟨I.ok, I.os, I.bare, ⟨fun b o e n hb hx => ?_, fun b o e n hb hx => ?_, I.base.free, fun b o e hx => ?_, I.base.tups, I.base.frzs, I.base.tbls⟩, ⟨m, hn.sameBut hs (Ne.symm (cne x c hc)), fun j y v' e1 e2 e3 => ?_⟩, fun y c' e => ?_, I.free, I.freeC, fun p hp => ?_, tracked ⟨oc, hoc, I.freeC x c hc⟩ hs, by simpa using I.len⟩ ⟨c, hs, .inr hc⟩
    · exact (hs.2 b (Nat.ne_of_lt (Nat.lt_of_lt_of_le (Heap.lt_size e) (I.ok.cab x c hfn hc)))).trans (I.base.keep b o e n hb hx)
    · obtain ⟨sl, e1⟩ := I.base.slot b o e n hb hx
      exact ⟨sl, (hs.2 b (Nat.ne_of_lt (Nat.lt_of_lt_of_le (Heap.lt_size e) (I.ok.cab x c hfn hc)))).trans e1⟩
    · obtain ⟨o', e1⟩ := I.base.there b o e hx
      exact ⟨o', (hs.2 b (Nat.ne_of_lt (Nat.lt_of_lt_of_le (Heap.lt_size e) (I.ok.cab x c hfn hc)))).trans e1⟩
    · by_cases hj : j = i
      · subst hj
        rw [hi] at e1; cases e1
        rw [List.getElem?_set_self hiσ] at e2
        cases e2
        exact ⟨u, r, .inr ⟨.inl hk, c, hc, hc'⟩⟩
      · rw [List.getElem?_set_ne (Ne.symm hj)] at e2
        obtain ⟨u', r', q⟩ := hl j y v' e1 e2 e3
        refine ⟨u', r', ?_⟩
        rcases q with q | ⟨k, c', e, z'⟩
        · exact .inl q
        · refine .inr ⟨k, c', e, z'.sameBut hs ?_⟩
          rintro rfl
          exact hj (nodup_ix hN e1 (I.ok.inj _ _ _ e hc ▸ hi))
    · by_cases hcc : c' = c
      · subst hcc; exact ⟨_, hc'⟩
      · obtain ⟨w2, z2⟩ := I.cell y c' e
        exact ⟨w2, z2.sameBut hs hcc⟩
    · obtain ⟨e, n, ne, nf, d⟩ := I.pin p hp
      refine ⟨(hs.2 p.1 ?_).trans e, n, ne, nf, d⟩
      intro q
      rw [q, hoc] at e
      have q' : oc = p.2 := Option.some.inj e
      exact d w' (by rw [← q']; exact hocd)
theorem store_ok {M : Model} {A : Around} {E : Value → Shared → Prop} {i : Nat} {x : Str} {v : V} {u : Value} {Q : Unit → Shared → Prop} (I : Inv X pins σ H s) (hN : X.N.Nodup) (hi : X.N[i]? = some x) (hx : Loc X.env.scope x) (r : RelV v u)
    (h : ∀ s', Inv X pins (σ.set i (some v)) H s' → Q () s') (hf : X.fn x = true ∨ X.env.scope.names.lookup x = some .local := by first | exact .inl rfl | exact .inr rfl | assumption) : wpAny M A (storeName X.env x u) Q E s :=
  store_ok2 I hN hi hx r (fun s' I' _ => h s' I') hf
theorem Inv.call' {s' : Shared} {ch : List Addr} (I : Inv X pins σ H s) (ho : s'.os = s.os) (u : Un (frs X.stack) ch H H' s.heap s'.heap) (hok : HOk X.prog X.w H' s'.heap) (hg : AllBare s'.gens)
    (hch : ∀ b ∈ ch, (b ∈ X.ex ∨ X.s₀.heap.objs.size ≤ b) ∧ b ≠ X.env.locals ∧ (∀ x c, X.env.cells.lookup x = some c → c ≠ b) ∧ ∀ p ∈ X.pn ++ pins, p.1 ≠ b) : Inv X pins σ H' s' := by
  obtain ⟨h', g', d', t', o'⟩ := s'
  have e : o' = s.os := ho
  subst e
  exact I.call (g' := g') (t' := t') (d' := d') u hok hg hch
end
noncomputable abbrev XK := Value → Option Addr → Hp → Prop
noncomputable abbrev St := List (Option V)
noncomputable abbrev VK := V → Hp → Prop
noncomputable abbrev TE := St → Hp → VK → Prop
noncomputable abbrev TT := St → Hp → (Bool → Hp → Prop) → Prop
noncomputable abbrev TA := St → Hp → (List V → Hp → Prop) → Prop
structure Ends where
  nx : St → Hp → Prop
  rt : VK
  bk : St → Hp → Prop := fun _ _ => False
  ct : St → Hp → Prop := fun _ _ => False
noncomputable abbrev TS := Ends → St → Hp → Prop
noncomputable def EP (X : Cx) (pins : List (Addr × Obj)) (σ : St) (Q : VK) (u : Value) (s' : Shared) : Prop := ∃ v H', Inv X pins σ H' s' ∧ RelV v u ∧ Q v H'
noncomputable def TP (X : Cx) (pins : List (Addr × Obj)) (σ : St) (Q : Bool → Hp → Prop) (b : Bool) (s' : Shared) : Prop := ∃ H', Inv X pins σ H' s' ∧ Q b H'
noncomputable def AP (X : Cx) (pins : List (Addr × Obj)) (σ : St) (Q : List V → Hp → Prop) (us : List Value) (s' : Shared) : Prop := ∃ vs H', Inv X pins σ H' s' ∧ Vals vs us ∧ Q vs H'
noncomputable def SP (X : Cx) (pins : List (Addr × Obj)) (D : Ends) (f : Flow) (s' : Shared) : Prop :=
  match f with
  | .next => ∃ σ' H', Inv X pins σ' H' s' ∧ D.nx σ' H'
  | .brk => ∃ σ' H', Inv X pins σ' H' s' ∧ D.bk σ' H'
  | .cont => ∃ σ' H', Inv X pins σ' H' s' ∧ D.ct σ' H'
  | .ret u => ∃ v σ' H', Inv X pins σ' H' s' ∧ RelV v u ∧ D.rt v H'
noncomputable def PE (X : Cx) (e : Expr) (t : TE) : Prop :=
  ∀ (pins : List (Addr × Obj)) (s : Shared) (σ : St) (H : Hp) (Q : VK), Inv X pins σ H s → t σ H Q → wpAny (model X.prog X.w) X.A (eval e X.env) (EP X pins σ Q) X.xe s
noncomputable def PT (X : Cx) (e : Expr) (t : TT) : Prop :=
  ∀ (pins : List (Addr × Obj)) (s : Shared) (σ : St) (H : Hp) (Q : Bool → Hp → Prop), Inv X pins σ H s → t σ H Q → wpAny (model X.prog X.w) X.A (isTrue e X.env (eval e X.env)) (TP X pins σ Q) X.xe s
noncomputable def PW (X : Cx) (e : Expr) (t : TT) : Prop :=
  ∀ (whole : Sem Value) (pins : List (Addr × Obj)) (s : Shared) (σ : St) (H : Hp) (Q : Bool → Hp → Prop), Inv X pins σ H s → t σ H Q → wpAny (model X.prog X.w) X.A (isTrue e X.env whole) (TP X pins σ Q) X.xe s
theorem PW.pt {X : Cx} {e : Expr} {t : TT} (h : PW X e t) : PT X e t := h _
noncomputable def PA (X : Cx) (es : List Expr) (t : TA) : Prop :=
  ∀ (pos : Pos) (pins : List (Addr × Obj)) (s : Shared) (σ : St) (H : Hp) (Q : List V → Hp → Prop), Inv X pins σ H s → t σ H Q → wpAny (model X.prog X.w) X.A (spliced (backTo pos (starEach es X.env))) (AP X pins σ Q) X.xe s
noncomputable def PS (X : Cx) (st : Stmt) (t : TS) : Prop :=
  ∀ (pins : List (Addr × Obj)) (s : Shared) (σ : St) (H : Hp) (D : Ends), Inv X pins σ H s → t D σ H → wpAny (model X.prog X.w) X.A (exec st X.env) (SP X pins D) X.xe s
noncomputable def PSs (X : Cx) (st : List Stmt) (t : TS) : Prop :=
  ∀ (pins : List (Addr × Obj)) (s : Shared) (σ : St) (H : Hp) (D : Ends), Inv X pins σ H s → t D σ H → wpAny (model X.prog X.w) X.A (execs st X.env) (SP X pins D) X.xe s
theorem thn {α : Type} {t : Sem α} {Q Q' : α → Shared → Prop} {M : Model} {A : Around} {E : Value → Shared → Prop} {s : Shared} (h : wpAny M A t Q E s) (hQ : ∀ a s, Q a s → Q' a s) : wpAny M A t Q' E s := wpAny_mono h hQ fun _ _ x => x
end L2
namespace L2
open PySem PySem.Spec PyProof.Rows
section
variable {X : Cx}
noncomputable def tVar (i : Nat) : TE := fun σ H Q => ∃ v, σ[i]? = some (some v) ∧ Q v H
noncomputable def tC (v : V) : TE := fun _ H Q => Q v H
theorem pe_var {i : Nat} {x : Str} {pos : Pos} (hN : X.N[i]? = some x) (hv : Vis X.env.scope x) (hd : (x == ("__debug__" : Str)) = false := by decide) (hcd : (x == ("__classdict__" : Str)) = false := by decide) : PE X (.Name x pos) (tVar i) := by
  intro pins s σ H Q I h
  obtain ⟨v, e, h⟩ := h
  obtain ⟨m, hn, hl⟩ := I.loc
  obtain ⟨u, r, l⟩ := hl i x v hN e hv
  have fin : EP X pins σ Q u s := ⟨v, H, I, r, h⟩
  rcases l with ⟨hk, hm⟩ | ⟨hk, c, hc, hcell⟩
  · exact wpAny_Name (wpAny_loadName_local I.ok.kind hk hn hm fin) hd
  · rcases hk with hk | hk
    · exact wpAny_Name (wpAny_loadName_cell I.ok.kind hk hc hcell fin) hd
    · exact wpAny_Name (wpAny_loadName_free I.ok.kind hk hc hcell fin hcd) hd
theorem pe_int {i j pos} : PE X (.Constant (.int i) j pos) (tC (.int i)) := fun _ _ _ H _ I h => wpAny_Constant_int ⟨.int i, H, I.tok _, ⟨_, rfl⟩, h⟩
theorem pe_bl {b j pos} : PE X (.Constant (.bool b) j pos) (tC (.bl b)) := fun _ _ _ H _ I h => Constant_bool ⟨.bl b, H, I, rfl, h⟩
theorem pe_non {j pos} : PE X (.Constant .none j pos) (tC .non) := fun _ _ _ H _ I h => Constant_none ⟨.non, H, I, rfl, h⟩
theorem pe_str {x j pos} : PE X (.Constant (.str x) j pos) (tC (.str x)) := fun _ _ _ H _ I h => Calls.Constant_str ⟨.str x, H, I.tok _, ⟨_, rfl⟩, h⟩
noncomputable def Gl (X : Cx) (x : Str) : Prop := X.env.kindOf x = some .globalImplicit
theorem ld_glob {E : Value → Shared → Prop} {pins : List (Addr × Obj)} {s : Shared} {σ : St} {H : Hp} {x : Str} {u : Value} {pos : Pos} {Q : Value → Shared → Prop} (I : Inv X pins σ H s) (hg : Gl X x) (hm : X.mg x = some u) (h : Q u s)
    (hd : (x == ("__debug__" : Str)) = false := by decide) : wpAny (model X.prog X.w) X.A (eval (.Name x pos) X.env) Q E s :=
  Calls.Name_function_global I.ok.kind hg (Calls.loadGlobal_global (by rw [I.ok.glob]; exact I.mod.glob.keeps I.bk) hm h) hd
theorem ld_blt {E : Value → Shared → Prop} {pins : List (Addr × Obj)} {s : Shared} {σ : St} {H : Hp} {x : Str} {u : Value} {pos : Pos} {Q : Value → Shared → Prop} (I : Inv X pins σ H s) (hg : Gl X x) (hm : X.mg x = none) (hv : bootBuiltins x = some u) (h : Q u s)
    (hn : x ≠ "__name__" := by decide) (hd : (x == ("__debug__" : Str)) = false := by decide) : wpAny (model X.prog X.w) X.A (eval (.Name x pos) X.env) Q E s := by
  obtain ⟨mb, h1, h2⟩ := I.mod.blt
  exact Calls.Name_function_global I.ok.kind hg (Calls.loadGlobal_builtin (by rw [I.ok.glob]; exact I.mod.glob.keeps I.bk) hm (by rw [I.ok.blt]; exact h1.keeps I.bk) ((h2 x hn).trans hv) h) hd
theorem pe_glob {x : Str} {v : V} {u : Value} {pos : Pos} (hg : Gl X x) (hm : X.mg x = some u) (r : RelV v u) (hd : (x == ("__debug__" : Str)) = false := by decide) : PE X (.Name x pos) (tC v) :=
  fun _ _ _ H _ I h => ld_glob I hg hm ⟨v, H, I, r, h⟩ hd
theorem pe_bltn {x : Str} {v : V} {u : Value} {pos : Pos} (hg : Gl X x) (hm : X.mg x = none) (hv : bootBuiltins x = some u) (r : RelV v u) (hn : x ≠ "__name__" := by decide) (hd : (x == ("__debug__" : Str)) = false := by decide) : PE X (.Name x pos) (tC v) :=
  fun _ _ _ H _ I h => ld_blt I hg hm hv ⟨v, H, I, r, h⟩ hn hd
variable {a b : Expr} {ta tb : TE} {pos : Pos}
noncomputable def tB (t : TE) : TT := fun σ H Q => t σ H fun x H1 => ∃ c, x = .bl c ∧ Q c H1
theorem pt_val {e : Expr} {t : TE} (h : PE X e t) (he : ∀ whole, isTrue e X.env whole = (do let v ← whole; standAt e.pos; holding [v] (truthy v)) := by intro _; rfl) : PT X e (tB t) := by
  intro pins s σ H Q I hw
  refine isTrue_plain (thn (h pins s σ H _ I hw) fun v s1 hz1 => ?_) (he _)
  obtain ⟨x, H1, I1, r1, q1⟩ := hz1
  obtain ⟨d, rfl, q⟩ := q1
  cases r1
  exact wpAny_truthy_bool ⟨H1, I1, q⟩
variable {tA tB' : TT} {rest : List Expr}
noncomputable def tAnd (t u : TT) : TT := fun σ H Q => t σ H fun c H1 => if c = true then u σ H1 Q else Q false H1
noncomputable def tOr (t u : TT) : TT := fun σ H Q => t σ H fun c H1 => if c = true then Q true H1 else u σ H1 Q
noncomputable def tNot (t : TT) : TT := fun σ H Q => t σ H fun c H1 => Q (!c) H1
theorem pw_and1 (ha : PT X a tA) : PW X (.BoolOp .And [a] pos) tA := by
  intro wh pins s σ H Q I h
  refine isTrue_and (thn (ha pins s σ H Q I h) fun c s1 e => ?_)
  cases c with
  | true => exact isTrue_and_nil e
  | false => exact e
theorem pw_or1 (ha : PT X a tA) : PW X (.BoolOp .Or [a] pos) tA := by
  intro wh pins s σ H Q I h
  refine isTrue_or (thn (ha pins s σ H Q I h) fun c s1 e => ?_)
  cases c with
  | false => exact isTrue_or_nil e
  | true => exact e
theorem pw_and (ha : PT X a tA) (hb : PW X (.BoolOp .And (b :: rest) pos) tB') : PW X (.BoolOp .And (a :: b :: rest) pos) (tAnd tA tB') := by
  intro wh pins s σ H Q I h
  refine isTrue_and (thn (ha pins s σ H _ I h) fun c s1 hz2 => ?_)
  obtain ⟨H1, I1, q1⟩ := hz2
  cases c with
  | true => exact hb wh pins s1 σ H1 Q I1 q1
  | false => exact ⟨H1, I1, q1⟩
theorem pw_or (ha : PT X a tA) (hb : PW X (.BoolOp .Or (b :: rest) pos) tB') : PW X (.BoolOp .Or (a :: b :: rest) pos) (tOr tA tB') := by
  intro wh pins s σ H Q I h
  refine isTrue_or (thn (ha pins s σ H _ I h) fun c s1 hz3 => ?_)
  obtain ⟨H1, I1, q1⟩ := hz3
  cases c with
  | true => exact ⟨H1, I1, q1⟩
  | false => exact hb wh pins s1 σ H1 Q I1 q1
theorem pt_not (ha : PT X a tA) : PT X (.UnaryOp .Not a pos) (tNot tA) := by
  intro pins s σ H Q I h
  exact isTrue_not (ha pins s σ H (fun c H1 => Q (!c) H1) I h)
noncomputable def tAndV (ta tb : TE) : TE := fun σ H Q => ta σ H fun x H1 => ∃ c, x = .bl c ∧ if c = true then tb σ H1 Q else Q (.bl false) H1
noncomputable def tOrV (ta tb : TE) : TE := fun σ H Q => ta σ H fun x H1 => ∃ c, x = .bl c ∧ if c = true then Q (.bl true) H1 else tb σ H1 Q
noncomputable def tNotV (ta : TE) : TE := fun σ H Q => ta σ H fun x H1 => ∃ c, x = .bl c ∧ Q (.bl (!c)) H1
theorem pe_one {op} {t : TE} (h : PE X a t) : PE X (.BoolOp op [a] pos) t := fun pins s σ H Q I hw => BoolOp_one (h pins s σ H Q I hw)
theorem pe_and (ha : PE X a ta) (hb : PE X (.BoolOp .And (b :: rest) pos) tb) : PE X (.BoolOp .And (a :: b :: rest) pos) (tAndV ta tb) := by
  intro pins s σ H Q I h
  refine BoolOp_and (thn (ha pins s σ H _ I h) fun v s1 hz4 => ?_)
  obtain ⟨x, H1, I1, r1, q1⟩ := hz4
  obtain ⟨c, rfl, q1⟩ := q1
  cases r1
  refine wpAny_truthy_bool ?_
  cases c with
  | true => exact hb pins s1 σ H1 Q I1 q1
  | false => exact ⟨.bl false, H1, I1, rfl, q1⟩
theorem pe_or (ha : PE X a ta) (hb : PE X (.BoolOp .Or (b :: rest) pos) tb) : PE X (.BoolOp .Or (a :: b :: rest) pos) (tOrV ta tb) := by
  intro pins s σ H Q I h
  refine BoolOp_or (thn (ha pins s σ H _ I h) fun v s1 hz5 => ?_)
  obtain ⟨x, H1, I1, r1, q1⟩ := hz5
  obtain ⟨c, rfl, q1⟩ := q1
  cases r1
  refine wpAny_truthy_bool ?_
  cases c with
  | false => exact hb pins s1 σ H1 Q I1 q1
  | true => exact ⟨.bl true, H1, I1, rfl, q1⟩
theorem pe_not (ha : PE X a ta) : PE X (.UnaryOp .Not a pos) (tNotV ta) := by
  intro pins s σ H Q I h
  refine UnaryOp_ (thn (ha pins s σ H _ I h) fun v s1 hz6 => ?_)
  obtain ⟨x, H1, I1, r1, q1⟩ := hz6
  obtain ⟨c, rfl, q1⟩ := q1
  cases r1
  exact not_of (wpAny_truthy_bool ⟨.bl (!c), H1, I1, rfl, q1⟩)
noncomputable def tIf (t : TT) (ta tb : TE) : TE := fun σ H Q => t σ H fun c H1 => if c = true then ta σ H1 Q else tb σ H1 Q
theorem pe_ifExp {c : Expr} (hc : PT X c tA) (ha : PE X a ta) (hb : PE X b tb) : PE X (.IfExp c a b pos) (tIf tA ta tb) := by
  intro pins s σ H Q I h
  refine wpAny_IfExp (thn (hc pins s σ H _ I h) fun d s1 hz7 => ?_)
  obtain ⟨H1, I1, q1⟩ := hz7
  cases d with
  | true => exact ha pins s1 σ H1 Q I1 q1
  | false => exact hb pins s1 σ H1 Q I1 q1
end
end L2
namespace L2
open PySem PySem.Spec PyProof.Rows
noncomputable def SqL (K : PySem.W.Frag) (H : Hp) (a : Addr) (xs : List V) : Prop :=
  Rd H a (.lst xs) ∨
    ∃ (o : Obj) (its : Array Value) (n : Nat), K.lookup a = some o ∧ o.cls = .type "list" ∧ o.dict = none ∧ o.data = .seq its n ∧ its.size ≤ sizeLine ∧ Vals xs its.toList
noncomputable def SqT (K : PySem.W.Frag) (H : Hp) (a : Addr) (xs : List V) : Prop :=
  Rd H a (.tup xs) ∨
    ∃ (o : Obj) (its : Array Value) (n : Nat), K.lookup a = some o ∧ o.cls = .type "tuple" ∧ o.data = .seq its n ∧ its.size ≤ sizeLine ∧ Vals xs its.toList
noncomputable def absV : Value → Option V
  | .none => some .non
  | .bool b => some (.bl b)
  | .int i _ => some (.int i)
  | .str x _ => some (.str x)
  | .bytes b _ => some (.byt b)
  | .float b _ => some (.flt b)
  | .ref a => some (.ref a)
  | .type n => some (.ty n)
  | _ => none
theorem RelV.abs {x : V} {u : Value} (r : RelV x u) : absV u = some x := by
  cases x with
  | non => cases r; rfl
  | bl _ => cases r; rfl
  | int _ => obtain ⟨t, rfl⟩ := r; rfl
  | str _ => obtain ⟨t, rfl⟩ := r; rfl
  | byt _ => obtain ⟨t, rfl⟩ := r; rfl
  | flt _ => obtain ⟨t, rfl⟩ := r; rfl
  | ref _ => cases r; rfl
  | ty _ => cases r; rfl
theorem RelV.inj {x y : V} {u : Value} (r : RelV x u) (q : RelV y u) : x = y := Option.some.inj (r.abs.symm.trans q.abs)
theorem Vals.inj : ∀ {xs ys : List V} {us : List Value}, Vals xs us → Vals ys us → xs = ys
  | _, _, _, .nil, .nil => rfl
  | _, _, _, .cons r t, .cons r' t' => by rw [r.inj r', Vals.inj t t']
section
variable {X : Cx} {pins : List (Addr × Obj)} {σ : St} {H : Hp} {s : Shared} {a : Addr} {xs ys : List V}
theorem SqL.of {K : PySem.W.Frag} (h : H a = some (.lst xs)) : SqL K H a xs := .inl (.inl h)
theorem SqT.of {K : PySem.W.Frag} (h : H a = some (.tup xs)) : SqT K H a xs := .inl (.inl h)
theorem Inv.list (I : Inv X pins σ H s) (h : SqL X.K H a xs) : ∃ its : List Value, Vals xs its ∧ PlainL s.heap a its.toArray ∧ xs.length ≤ sizeLine := by
  rcases h with h | ⟨o, its, n, hk, hc, hd, hs, hz, r⟩
  · obtain ⟨z, its, n, r, e⟩ := h.ok I.hok
    exact ⟨its, r, ⟨_, n, e, rfl, rfl, rfl⟩, z⟩
  · refine ⟨its.toList, r, ⟨o, n, I.kIn a o hk, hc, hd, by simpa using hs⟩, ?_⟩
    have e := r.length
    simp only [Array.length_toList] at e
    omega
theorem Inv.tuple (I : Inv X pins σ H s) (h : SqT X.K H a xs) : ∃ its : List Value, Vals xs its ∧ IsTup s.heap a its.toArray ∧ xs.length ≤ sizeLine := by
  rcases h with h | ⟨o, its, n, hk, hc, hs, hz, r⟩
  · obtain ⟨z, its, r, p⟩ := h.ok I.hok
    exact ⟨its, r, p, z⟩
  · refine ⟨its.toList, r, ⟨o, I.kIn a o hk, hc, n, by simpa using hs⟩, ?_⟩
    have e := r.length
    simp only [Array.length_toList] at e
    omega
theorem Inv.list_inj (I : Inv X pins σ H s) (h : SqL X.K H a xs) (h' : SqL X.K H a ys) : xs = ys := by
  obtain ⟨its, r, ⟨o, n, e, _, _, d⟩, _⟩ := I.list h
  obtain ⟨its', r', ⟨o', n', e', _, _, d'⟩, _⟩ := I.list h'
  rw [e] at e'; cases e'
  rw [d] at d'
  injection d' with d1 _
  have : its = its' := by simpa using congrArg Array.toList d1
  subst this
  exact r.inj r'
end
noncomputable abbrev Cx.wish (X : Cx) (E : Value → Shared → Prop) : Cx := { X with xe := E }
noncomputable abbrev Cx.nox (X : Cx) : Cx := X.wish fun _ _ => False
theorem Cx.Ok.wish {X : Cx} (ok : X.Ok) (E : Value → Shared → Prop) : (X.wish E).Ok :=
  ⟨ok.mod, ok.kind, ok.glob, ok.blt, ok.above, ok.inj, ok.has, ok.cab, ok.hd, ok.frames, ok.stk, ok.exf, ok.bs, ok.bsz, ok.noex, ok.exfs, ok.funs, ok.frf⟩
theorem Cx.Ok.unwish {X : Cx} {E : Value → Shared → Prop} (ok : (X.wish E).Ok) : X.Ok :=
  ⟨ok.mod, ok.kind, ok.glob, ok.blt, ok.above, ok.inj, ok.has, ok.cab, ok.hd, ok.frames, ok.stk, ok.exf, ok.bs, ok.bsz, ok.noex, ok.exfs, ok.funs, ok.frf⟩
section
variable {X : Cx} {pins : List (Addr × Obj)} {σ : St} {H : Hp} {s : Shared} {E : Value → Shared → Prop}
theorem Inv.wish (I : Inv X pins σ H s) (E : Value → Shared → Prop) : Inv (X.wish E) pins σ H s := ⟨I.ok.wish E, I.os, I.bare, I.base, I.loc, I.cell, I.free, I.freeC, I.pin, I.hok, I.len⟩
theorem Inv.unwish (I : Inv (X.wish E) pins σ H s) : Inv X pins σ H s := ⟨I.ok.unwish, I.os, I.bare, I.base, I.loc, I.cell, I.free, I.freeC, I.pin, I.hok, I.len⟩
theorem SP.unwish {D : Ends} {f : Flow} {s' : Shared} (h : SP (X.wish E) pins D f s') : SP X pins D f s' := by
  cases f with
  | next => obtain ⟨σ', H', I, q⟩ := h; exact ⟨σ', H', I.unwish, q⟩
  | brk => obtain ⟨σ', H', I, q⟩ := h; exact ⟨σ', H', I.unwish, q⟩
  | cont => obtain ⟨σ', H', I, q⟩ := h; exact ⟨σ', H', I.unwish, q⟩
  | ret u => obtain ⟨v, σ', H', I, r, q⟩ := h; exact ⟨v, σ', H', I.unwish, r, q⟩
theorem PSs.nox {st : List Stmt} {t : TS} (h : PSs X.nox st t) : PSs X st t := fun pins s σ H D I hw =>
  wpAny_mono (h pins s σ H D (I.wish _) hw) (fun _ _ q => q.unwish) fun _ _ z => False.elim z
end
section
variable {X : Cx} {st : Stmt} {rest : List Stmt} {t u : TS} {e : Expr} {te : TE} {pos : Pos}
noncomputable def tNext : TS := fun D σ H => D.nx σ H
noncomputable def tSeq (t u : TS) : TS := fun D σ H => t { D with nx := u D } σ H
theorem pss_nil : PSs X [] tNext := fun _ _ σ H _ I h => wpAny_execs_nil ⟨σ, H, I, h⟩
theorem pss_cons (h1 : PS X st t) (h2 : PSs X rest u) : PSs X (st :: rest) (tSeq t u) := by
  intro pins s σ H D I h
  refine wpAny_execs_cons (thn (h1 pins s σ H { D with nx := u D } I h) fun f s1 q => ?_)
  cases f with
  | next =>
    obtain ⟨σ', H', I', q⟩ := q
    exact h2 pins s1 σ' H' D I' q
  | ret v => exact q
  | brk => exact q
  | cont => exact q
theorem pss_one (h1 : PS X st t) : PSs X [st] t := by
  intro pins s σ H D I h
  refine wpAny_execs_cons (thn (h1 pins s σ H D I h) fun f s1 q => ?_)
  cases f with
  | next => exact wpAny_execs_nil q
  | ret v => exact q
  | brk => exact q
  | cont => exact q
theorem Inv.quiet {pins : List (Addr × Obj)} {σ : St} {H : Hp} {s : Shared} (I : Inv X pins σ H s) : interactive X.env = false := by simp [interactive, I.ok.kind]
noncomputable def tDrop (te : TE) : TS := fun D σ H => te σ H fun _ H1 => D.nx σ H1
theorem ps_expr (he : PE X e te) (hs : swapsWith e none pos.line X.env = pure false := by rfl) : PS X (.Expr e pos) (tDrop te) := by
  intro pins s σ H D I h
  exact wpAny_Expr_any (thn (he pins s σ H _ I h) fun v s1 ⟨x, H1, I1, r1, q1⟩ => ⟨σ, H1, I1, q1⟩) I.quiet hs
noncomputable def tRet (te : TE) : TS := fun D σ H => te σ H D.rt
theorem ps_ret (he : PE X e te) : PS X (.Return (some e) pos) (tRet te) := by
  intro pins s σ H D I h
  exact wpAny_Return_some (thn (he pins s σ H _ I h) fun v s1 ⟨x, H1, I1, r1, q1⟩ => ⟨x, σ, H1, I1, r1, q1⟩)
noncomputable def tIfS (c : TT) (t u : TS) : TS := fun D σ H => c σ H fun b H1 => if b = true then t D σ H1 else u D σ H1
theorem ps_if {c : Expr} {a b : List Stmt} {tc : TT} (hc : PT X c tc) (ha : PSs X a t) (hb : PSs X b u) : PS X (.If c a b pos) (tIfS tc t u) := by
  intro pins s σ H D I h
  refine wpAny_If (thn (hc pins s σ H _ I h) fun d s1 hz8 => ?_)
  obtain ⟨H1, I1, q1⟩ := hz8
  cases d with
  | true => exact ha pins s1 σ H1 D I1 q1
  | false => exact hb pins s1 σ H1 D I1 q1
noncomputable def tNever : TS := fun _ _ _ => False
theorem ps_never : PS X st tNever := fun _ _ _ _ _ _ h => h.elim
theorem pss_never {sts : List Stmt} : PSs X sts tNever := fun _ _ _ _ _ _ h => h.elim
end
noncomputable abbrev TG := V → St → Hp → (St → Hp → Prop) → Prop
noncomputable abbrev TGs := List V → St → Hp → (St → Hp → Prop) → Prop
noncomputable def PG (X : Cx) (target : Expr) (t : TG) : Prop :=
  ∀ (pins : List (Addr × Obj)) (s : Shared) (σ : St) (H : Hp) (v : V) (u : Value) (Q : St → Hp → Prop), Inv X pins σ H s → RelV v u → t v σ H Q →
    wpAny (model X.prog X.w) X.A (assign target X.env u) (fun _ s' => ∃ σ' H', Inv X pins σ' H' s' ∧ Q σ' H') X.xe s
noncomputable def PGs (X : Cx) (ts : List Expr) (t : TGs) : Prop :=
  ∀ (pins : List (Addr × Obj)) (s : Shared) (σ : St) (H : Hp) (vs : List V) (us : List Value) (Q : St → Hp → Prop), Inv X pins σ H s → Vals vs us → t vs σ H Q →
    wpAny (model X.prog X.w) X.A (assignInOrder ((assignEach ts X.env).map (·.2)) us) (fun _ s' => ∃ σ' H', Inv X pins σ' H' s' ∧ Q σ' H') X.xe s
noncomputable abbrev TSet := V → V → V → Hp → (Hp → Prop) → Prop
noncomputable def PSet (X : Cx) (t : TSet) : Prop :=
  ∀ (pins : List (Addr × Obj)) (s : Shared) (σ : St) (H : Hp) (o i v : V) (ov iv u : Value) (Q : Hp → Prop), Inv X pins σ H s → RelV o ov → RelV i iv → RelV v u → t o i v H Q →
    wpAny (model X.prog X.w) X.A (setItem ov iv u) (fun _ s' => ∃ H', Inv X pins σ H' s' ∧ Q H') X.xe s
section
variable {X : Cx} {pos : Pos}
noncomputable def gName (i : Nat) : TG := fun v σ H Q => Q (σ.set i (some v)) H
theorem pg_name {i : Nat} {x : Str} (hN : X.N.Nodup) (hi : X.N[i]? = some x) (hx : Loc X.env.scope x) (hf : X.fn x = true ∨ X.env.scope.names.lookup x = some .local := by first | exact .inl rfl | exact .inr rfl | assumption) : PG X (.Name x pos) (gName i) := by
  intro pins s σ H v u Q I r h
  exact wpAny_assign_Name (store_ok I hN hi hx r (fun s' I' => ⟨_, H, I', h⟩) hf)
noncomputable def gNil : TGs := fun vs σ H Q => vs = [] ∧ Q σ H
noncomputable def gCons (t : TG) (u : TGs) : TGs := fun vs σ H Q => ∃ v r, vs = v :: r ∧ t v σ H fun σ' H' => u r σ' H' Q
theorem pgs_nil : PGs X [] gNil := by
  intro pins s σ H vs us Q I r h
  obtain ⟨e, h⟩ := h
  subst e
  cases r
  exact assignInOrder_nil ⟨σ, H, I, h⟩
theorem pgs_cons {e : Expr} {es : List Expr} {t : TG} {u : TGs} (h1 : PG X e t) (h2 : PGs X es u)
    (hs : (assignEach (e :: es) X.env).map (·.2) = assign e X.env :: (assignEach es X.env).map (·.2) := by rfl) : PGs X (e :: es) (gCons t u) := by
  intro pins s σ H vs us Q I r h
  obtain ⟨v, vr, e1, h⟩ := h
  subst e1
  cases r with
  | cons r rr =>
    rw [hs]
    refine assignInOrder_cons (thn (h1 pins s σ H _ _ _ I r h) fun _ s1 hz9 => ?_)
    obtain ⟨σ1, H1, I1, q1⟩ := hz9
    exact h2 pins s1 σ1 H1 _ _ Q I1 rr q1
noncomputable def gTup (K : PySem.W.Frag) (n : Nat) (t : TGs) : TG := fun v σ H Q => ∃ a xs, v = .ref a ∧ SqT K H a xs ∧ xs.length = n ∧ t xs σ H Q
theorem pg_tup {es : List Expr} {k : Nat} {t : TGs} {n : Nat} (hc : X.calm = true) (h : PGs X es t)
    (hn : (assignEach es X.env).length = n := by rfl) (hst : (assignEach es X.env).findIdx? (·.1) = none := by rfl) : PG X (.Tuple es k pos) (gTup X.K n t) := by
  intro pins s σ H v u Q I r hw
  obtain ⟨a, xs, e1, hq, hl, hw⟩ := hw
  subst e1
  cases r
  obtain ⟨its, rv, ht, hz⟩ := I.tuple hq
  refine assign_Tuple_tuple (I.ok.hd hc) ht (by simp [hn, ← hl, rv.length]) hst fun h' hx => ?_
  have I1 : Inv X pins σ H { s with heap := h' } := I.kept (t' := s.toks) fun b o e => hx b o (Nat.ne_of_lt (Heap.lt_size e)) e
  exact h pins _ σ H xs _ Q I1 (by simpa using rv) hw
noncomputable def gSub (to ti : TE) (t : TSet) : TG := fun v σ H Q => to σ H fun o H1 => ti σ H1 fun i H2 => t o i v H2 fun H3 => Q σ H3
theorem pg_sub {o i : Expr} {to ti : TE} {t : TSet} (ho : PE X o to) (hi : PE X i ti) (hs : PSet X t)
    (ha : ∀ v, assign (.Subscript o i pos) X.env v = (do
      let ov ← holding [v] (eval o X.env)
      let iv ← holding [v, ov] (eval i X.env)
      standAt pos
      holding [v, ov, iv] (setItem ov iv v)
      release [v, ov, iv] []) := by intro _; rfl) : PG X (.Subscript o i pos) (gSub to ti t) := by
  intro pins s σ H v u Q I r h
  rw [ha]
  refine wpAny_bind (wpAny_holding (thn (ho pins s σ H _ I h) fun ov s1 hz10 => ?_))
  obtain ⟨x, H1, I1, r1, q1⟩ := hz10
  refine wpAny_bind (wpAny_holding (thn (hi pins s1 σ H1 _ I1 q1) fun iv s2 hz11 => ?_))
  obtain ⟨y, H2, I2, r2, q2⟩ := hz11
  refine wpAny_bind (wpAny_standAt (wpAny_bind (wpAny_holding (thn (hs pins s2 σ H2 x y v ov iv u _ I2 r1 r2 r q2) fun _ s3 hz12 => ?_))))
  obtain ⟨H3, I3, q3⟩ := hz12
  exact wpAny_release ⟨σ, H3, I3, q3⟩
noncomputable def tAsg (te : TE) (g : TG) : TS := fun D σ H => te σ H fun x H1 => g x σ H1 D.nx
theorem ps_asg {tg e : Expr} {te : TE} {g : TG} (he : PE X e te) (hg : PG X tg g) (hs : swapsWithSole [tg] e pos.line X.env = pure false := by rfl) (hw : swappedStores [tg] e X.env = pure none := by rfl)
    (h1 : (assignEach [tg] X.env).map (·.2) = [assign tg X.env] := by rfl) : PS X (.Assign [tg] e pos) (tAsg te g) := by
  intro pins s σ H D I h
  refine wpAny_Assign_stores (thn (he pins s σ H _ I h) fun v s1 hz13 => ?_) hs hw
  obtain ⟨x, H1, I1, r1, q1⟩ := hz13
  rw [h1]
  exact thn (hg pins s1 σ H1 x v _ I1 r1 q1) fun _ s2 q => q
theorem ps_set {i : Nat} {x : Str} {e : Expr} {te : TE} {pos' : Pos} (hN : X.N.Nodup) (hi : X.N[i]? = some x) (hx : Loc X.env.scope x) (he : PE X e te) (hs : swapsWith e (some (.Name x pos')) pos.line X.env = pure false := by rfl) (hf : X.fn x = true ∨ X.env.scope.names.lookup x = some .local := by first | exact .inl rfl | exact .inr rfl | assumption) :
    PS X (.Assign [.Name x pos'] e pos) (tAsg te (gName i)) := by
  intro pins s σ H D I h
  refine wpAny_Assign_Name (thn (he pins s σ H _ I h) fun v s1 hz14 => ?_) hs
  obtain ⟨y, H1, I1, r1, q1⟩ := hz14
  exact store_ok I1 hN hi hx r1 (fun s2 I2 => ⟨_, H1, I2, q1⟩) hf
end
section
variable {X : Cx} {pos : Pos}
end
structure It where
  go : Nat → Hp → Prop
  yld : Nat → Hp → V → Hp → Prop
  stop : Nat → Hp → Prop
noncomputable def FpOk (X : Cx) (pins : List (Addr × Obj)) (H : Hp) (b : Addr) : Prop :=
  H b = none ∧ b ≠ X.env.locals ∧ b ∉ X.fs ∧ (b ∈ X.ex ∨ X.s₀.heap.objs.size ≤ b) ∧ (∀ x c, X.env.cells.lookup x = some c → c ≠ b) ∧ ∀ p ∈ X.pn ++ pins, p.1 ≠ b
theorem Inv.fpOk {X : Cx} {pins : List (Addr × Obj)} {σ : St} {H H' : Hp} {s : Shared} {b : Addr} (I : Inv X pins σ H s) (hb : s.heap.objs.size ≤ b) (hn : H' b = none) : FpOk X pins H' b := by
  refine ⟨hn, Nat.ne_of_gt (Nat.lt_of_lt_of_le I.lt hb), I.nofs hb, .inr (Nat.le_trans I.sz hb), fun x c e z => ?_, fun p hp z => ?_⟩
  · obtain ⟨v, q⟩ := I.cell x c e
    exact absurd (Nat.lt_of_lt_of_le q.lt (by rw [z]; exact hb)) (Nat.lt_irrefl _)
  · exact absurd (Nat.lt_of_lt_of_le (Heap.lt_size (I.pin p hp).1) (by rw [z]; exact hb)) (Nat.lt_irrefl _)
structure Turn (P : Program) (w : World) (K : PySem.W.Frag) (tg : Expr) (J : It) (fp : List Addr) (it : Addr) (tn : Nat → Heap → Prop) : Prop where
  mem : it ∈ fp
  obj : ∀ i h, tn i h → ∀ b ∈ fp, ∃ o, h.get? b = some o ∧ ∀ v, o.data ≠ .cell v
  keep : ∀ i h h', tn i h → (∀ b ∈ fp, ∀ o, h.get? b = some o → h'.get? b = some o) → tn i h'
  item : ∀ (X : Cx), X.prog = P → X.w = w → X.K = K → X.calm = true → ∀ (i : Nat) (pins : List (Addr × Obj)) (s : Shared) (σ : St) (H : Hp) (E : Value → Shared → Prop), Inv X pins σ H s → (∀ b ∈ fp, FpOk X pins H b) → tn i s.heap → J.go i H →
    wpAny (model P w) X.A (pyNext (.ref it)) (fun r s1 => ∃ u, r = some u ∧
      wpAny (model P w) X.A (letOwnedTupleGo tg (.ref it) u) (fun _ s2 => ∃ x H', Inv X pins σ H' s2 ∧ RelV x u ∧ J.yld i H x H' ∧ tn (i + 1) s2.heap ∧ ∀ b ∈ fp, H' b = none) E s1) E s
  done : ∀ (X : Cx), X.prog = P → X.w = w → X.K = K → X.calm = true → ∀ (i : Nat) (pins : List (Addr × Obj)) (s : Shared) (σ : St) (H : Hp) (E : Value → Shared → Prop), Inv X pins σ H s → (∀ b ∈ fp, FpOk X pins H b) → tn i s.heap → J.stop i H →
    wpAny (model P w) X.A (pyNext (.ref it)) (fun r s1 => r = none ∧ Inv X pins σ H s1) E s
  self : ∀ (A : Around) (i : Nat) (s : Shared) (Q : Value → Shared → Prop) (E : Value → Shared → Prop), tn i s.heap → Q (.ref it) s → wpAny (model P w) A (pyIter (.ref it)) Q E s
noncomputable abbrev TI := St → Hp → (It → Hp → Prop) → Prop
noncomputable def PIE (X : Cx) (pins : List (Addr × Obj)) (σ : St) (tg : Expr) (R : It → Hp → Prop) (itv : Value) (s2 : Shared) : Prop :=
  ∃ (it : Addr) (fp : List Addr) (tn : Nat → Heap → Prop) (J : It) (H' : Hp), itv = .ref it ∧ Inv X pins σ H' s2 ∧ Turn X.prog X.w X.K tg J fp it tn ∧ tn 0 s2.heap ∧ (∀ b ∈ fp, FpOk X pins H' b) ∧ R J H'
noncomputable def PI (X : Cx) (tg iter : Expr) (wi : TI) : Prop :=
  ∀ (pins : List (Addr × Obj)) (s : Shared) (σ : St) (H : Hp) (R : It → Hp → Prop), Inv X pins σ H s → wi σ H R →
    wpAny (model X.prog X.w) X.A (eval iter X.env) (fun v s1 => wpAny (model X.prog X.w) X.A (pyIter v) (PIE X pins σ tg R) X.xe s1) X.xe s
theorem go_of {M : Model} {A : Around} {E : Value → Shared → Prop} {s : Shared} {tg : Expr} {it : Addr} {u : Value} {o : Obj} {n : String} {vs : Array Value} {Q : Unit → Shared → Prop} (ho : s.heap.get? it = some o) (hc : o.cls = .type n) (hd : o.data = .fields vs)
    (hn : ["enumerate", "zip", "dict_itemiterator", "dict_reverseitemiterator", "odict_iterator", "itertools.zip_longest", "itertools.pairwise"].contains n = false) (hQ : Q () s) : wpAny M A (letOwnedTupleGo tg (.ref it) u) Q E s := by
  unfold letOwnedTupleGo
  cases tg <;> first
    | exact wpAny_pure hQ
    | (cases u <;> first
        | exact wpAny_pure hQ
        | (refine wpAny_bind (wpAny_load ho ?_)
           rw [hc, hd]
           show wpAny M A (if (["enumerate", "zip", "dict_itemiterator", "dict_reverseitemiterator", "odict_iterator", "itertools.zip_longest", "itertools.pairwise"].contains n && vs[0]? == some (rawInt _)) = true then _ else _) Q E s
           rw [if_neg (by intro h; rw [hn, Bool.false_and] at h; cases h)]
           exact wpAny_pure hQ))
noncomputable def Itl (K : PySem.W.Frag) (a : Addr) : It :=
  ⟨fun i H => ∃ xs x, SqL K H a xs ∧ xs[i]? = some x, fun i H x H' => H' = H ∧ ∀ xs, SqL K H a xs → xs[i]? = some x, fun i H => ∃ xs, SqL K H a xs ∧ xs.length ≤ i⟩
noncomputable def Itr (lo : Int) (n : Nat) : It := ⟨fun i _ => i < n, fun i H x H' => H' = H ∧ x = .int (lo + i), fun i _ => n ≤ i⟩
theorem turn_list {P : Program} {w : World} {K : PySem.W.Frag} {tg : Expr} (a it : Addr) : Turn P w K tg (Itl K a) [it] it (fun i h => h.IsListIter it a i) where
  mem := by simp
  obj := fun i h st b hb => by
    have e : b = it := by simpa using hb
    subst e
    obtain ⟨o, e, c, d⟩ := st
    exact ⟨o, e, fun v z => by rw [d] at z; cases z⟩
  keep := fun i h h' st k => st.at fun o e => k it (by simp) o e
  item := by
    intro X hP hw hK hc i pins s σ H E I hf st hg
    subst hP hw hK
    obtain ⟨xs, x, hq, hx⟩ := hg
    obtain ⟨its, rv, p, hz⟩ := I.list hq
    obtain ⟨u, hu, ru⟩ := rv.get hx
    obtain ⟨f0, f1, f2, f3, f4, f5⟩ := hf it (by simp)
    refine wpAny_pyNext_list_item st p.isList (x := u) (by simpa using hu) fun h' st' sb => ?_
    have I1 : Inv X pins σ H { s with heap := h' } := I.turned (t' := s.toks) (fun b o hb e => (sb.2 b hb).trans e) f0 f1 f3 f4 f5
    obtain ⟨o, e, c, d⟩ := id st'
    exact ⟨u, rfl, go_of (s := { s with heap := h' }) e c d (by decide) ⟨x, H, I1, ru, ⟨rfl, fun ys hy => by rw [I.list_inj hy hq]; exact hx⟩, st', fun b hb => (hf b hb).1⟩⟩
  done := by
    intro X hP hw hK hc i pins s σ H E I hf st hg
    subst hP hw hK
    obtain ⟨xs, hq, hx⟩ := hg
    obtain ⟨its, rv, p, hz⟩ := I.list hq
    obtain ⟨f0, f1, f2, f3, f4, f5⟩ := hf it (by simp)
    have hl := rv.length
    exact wpAny_pyNext_list_end (I.ok.hd hc) st p.isList (by simp; omega) fun h' eb => ⟨rfl, I.turned (t' := s.toks) (fun b o hb e => eb b o hb e) f0 f1 f3 f4 f5⟩
  self := fun _ _ _ _ _ st h => wpAny_pyIter_listiter st h
theorem turn_range {P : Program} {w : World} {K : PySem.W.Frag} {tg : Expr} (it : Addr) (lo : Int) (n : Nat) : Turn P w K tg (Itr lo n) [it] it (fun i h => IsRangeIter h it (lo + (i : Nat) * 1) ((n : Int) - (i : Nat)) 1) where
  mem := by simp
  obj := fun i h st b hb => by
    have e : b = it := by simpa using hb
    subst e
    exact ⟨_, st, fun v z => by
      have z' : Data.fields _ = Data.cell v := z
      cases z'⟩
  keep := fun i h h' st k => k it (by simp) _ st
  item := by
    intro X hP hw hK hc i pins s σ H E I hf st hg
    subst hP hw hK
    obtain ⟨f0, f1, f2, f3, f4, f5⟩ := hf it (by simp)
    have W := Walks.range (prog := X.prog) (w := X.w) (I.ok.hd hc) it lo 1 n
    refine W.item i s _ _ hg st fun v h' tk hv st' kk => ?_
    obtain ⟨t, rfl⟩ := hv
    have I1 : Inv X pins σ H { s with heap := h', toks := tk } := I.turned (fun b o hb e => kk b o (by simpa using hb) e) f0 f1 f3 f4 f5
    refine ⟨_, rfl, go_of (s := { s with heap := h', toks := tk }) (n := "range_iterator") st' rfl rfl (by decide) ⟨.int (lo + i), H, I1, ⟨t, ?_⟩, ⟨rfl, rfl⟩, st', fun b hb => (hf b hb).1⟩⟩
    rw [Int.mul_one]
  done := by
    intro X hP hw hK hc i pins s σ H E I hf st hg
    subst hP hw hK
    obtain ⟨f0, f1, f2, f3, f4, f5⟩ := hf it (by simp)
    exact wpAny_pyNext_range_end (I.ok.hd hc) st (by have : n ≤ i := hg; omega) fun h' eb => ⟨rfl, I.turned (t' := s.toks) (fun b o hb e => eb b o hb e) f0 f1 f3 f4 f5⟩
  self := fun _ _ _ _ _ st h => wpAny_pyIter_rangeiter st h
end L2
namespace L2
open PySem PySem.Spec PyProof.Rows
section
variable {X : Cx} {tg : Expr}
noncomputable def iList (K : PySem.W.Frag) (tl : TE) : TI := fun σ H R => tl σ H fun x H1 => ∃ a, x = .ref a ∧ (∃ xs, SqL K H1 a xs) ∧ R (Itl K a) H1
theorem pi_list {l : Expr} {tl : TE} (hl : PE X l tl) : PI X tg l (iList X.K tl) := by
  intro pins s σ H R I h
  refine thn (hl pins s σ H _ I h) fun v s1 hz15 => ?_
  obtain ⟨x, H1, I1, r1, q1⟩ := hz15
  obtain ⟨a, e, ⟨xs, hq⟩, q⟩ := q1
  subst e
  cases r1
  obtain ⟨its, rv, p, hz⟩ := I1.list hq
  refine wpAny_pyIter_list p.isList ?_
  refine ⟨s1.heap.objs.size, [s1.heap.objs.size], _, _, H1, rfl, I1.kept (t' := s1.toks) fun b o e => Heap.get?_push_of_some _ e, turn_list a _, ⟨_, Heap.get?_push_size _ rfl, rfl, rfl⟩, fun b hb => ?_, q⟩
  have e : b = s1.heap.objs.size := by simpa using hb
  subst e
  exact I1.fpOk (Nat.le_refl _) (I1.hok.fresh (Nat.le_refl _))
theorem range_it {pins : List (Addr × Obj)} {σ : St} {H : Hp} {s : Shared} {R : It → Hp → Prop} {E : Value → Shared → Prop} {lo hi : Int} {t u v : Tok} {tk : Nat} (I : Inv X pins σ H s) (h1 : -(2 ^ 62) ≤ lo) (h2 : lo < 2 ^ 62) (h3 : -(2 ^ 62) ≤ hi) (h4 : hi < 2 ^ 62)
    (q : R (Itr lo (hi - lo).toNat) H) : wpAny (model X.prog X.w) X.A (pyIter (.ref s.heap.objs.size)) (PIE X pins σ tg R) E { s with heap := s.heap.push { cls := .type "range", data := .fields #[.int lo t, .int hi u, .int 1 v] }, toks := tk } := by
  refine wpAny_pyIter_range (IsRange.new ..) (small_one h1 h2 h3 h4) ?_
  have I1 : Inv X pins σ H { s with heap := s.heap.push { cls := .type "range", data := .fields #[.int lo t, .int hi u, .int 1 v] }, toks := tk } := I.kept fun b o e => Heap.get?_push_of_some _ e
  refine ⟨(s.heap.push { cls := .type "range", data := .fields #[.int lo t, .int hi u, .int 1 v] }).objs.size, [(s.heap.push { cls := .type "range", data := .fields #[.int lo t, .int hi u, .int 1 v] }).objs.size], _, _, H, rfl,
    I1.kept (t' := tk) fun b o e => Heap.get?_push_of_some _ e, turn_range _ lo (hi - lo).toNat, ?_, fun b hb => ?_, q⟩
  · have e1 : lo + ((0 : Nat) : Int) * 1 = lo := by simp
    have e2 : (((hi - lo).toNat : Nat) : Int) - ((0 : Nat) : Int) = Builtin.Range.rangeSize lo hi 1 := by rw [rangeSize_one]; split <;> omega
    show IsRangeIter _ _ (lo + ((0 : Nat) : Int) * 1) ((((hi - lo).toNat : Nat) : Int) - ((0 : Nat) : Int)) 1
    rw [e1, e2]
    exact Heap.get?_push_size _ rfl
  · have e : b = (s.heap.push { cls := .type "range", data := .fields #[.int lo t, .int hi u, .int 1 v] }).objs.size := by simpa using hb
    subst e
    exact I1.fpOk (Nat.le_refl _) (I1.hok.fresh (Nat.le_refl _))
noncomputable def iRng1 (ta : TA) : TI := fun σ H R => ta σ H fun vs H1 => ∃ j : Int, vs = [.int j] ∧ -(2 ^ 62) ≤ j ∧ j < 2 ^ 62 ∧ R (Itr 0 j.toNat) H1
noncomputable def iRng2 (ta : TA) : TI := fun σ H R => ta σ H fun vs H1 => ∃ i j : Int, vs = [.int i, .int j] ∧ (-(2 ^ 62) ≤ i ∧ i < 2 ^ 62 ∧ -(2 ^ 62) ≤ j ∧ j < 2 ^ 62) ∧ R (Itr i (j - i).toNat) H1
theorem pi_range1 {a : Expr} {ta : TA} {p pos : Pos} (hg : Gl X "range") (hm : X.mg "range" = none) (ha : PA X [a] ta) (hs : starEach [a] X.env = [(false, eval a X.env)] := by rfl) : PI X tg (.Call (.Name "range" p) [a] [] pos) (iRng1 ta) := by
  intro pins s σ H R I h
  refine Call_ (ld_blt I hg hm boot_range (PyProof.Rows.callWith_type1 (thn (ha pos pins s σ H _ I h) fun us s1 hz16 => ?_) hs rfl))
  obtain ⟨vs, H1, I1, r1, q1⟩ := hz16
  obtain ⟨j, e, q1, q2, q⟩ := q1
  subst e
  cases r1 with
  | cons r rr =>
    cases rr
    obtain ⟨t, rfl⟩ := r
    exact call_range_1 (range_it I1 (by omega) (by omega) q1 q2 (by simpa using q))
theorem pi_range2 {a b : Expr} {ta : TA} {p pos : Pos} (hg : Gl X "range") (hm : X.mg "range" = none) (ha : PA X [a, b] ta) (hs : starEach [a, b] X.env = [(false, eval a X.env), (false, eval b X.env)] := by rfl) (hs2 : starEach [b] X.env = [(false, eval b X.env)] := by rfl) :
    PI X tg (.Call (.Name "range" p) [a, b] [] pos) (iRng2 ta) := by
  intro pins s σ H R I h
  refine Call_ (ld_blt I hg hm boot_range (PyProof.Rows.callWith_type1 (thn (ha pos pins s σ H _ I h) fun us s1 hz17 => ?_) (by rw [hs, hs2]) (by rw [hs2]; rfl)))
  obtain ⟨vs, H1, I1, r1, q1⟩ := hz17
  obtain ⟨i, j, e, ⟨q1, q2, q3, q4⟩, q⟩ := q1
  subst e
  cases r1 with
  | cons r rr =>
    cases rr with
    | cons r' rr =>
      cases rr
      obtain ⟨t, rfl⟩ := r
      obtain ⟨t', rfl⟩ := r'
      exact call_range_2 (range_it I1 q1 q2 q3 q4 q)
noncomputable def tFor (wi : TI) (g : TG) (tb : TS) : TS := fun D σ H => wi σ H fun J H1 => ∃ W : Nat → Nat → St → Hp → Prop, (∃ m, W 0 m σ H1) ∧ ∀ i m σ H, W i m σ H →
  (J.stop i H ∧ D.nx σ H) ∨ (J.go i H ∧ ∃ N : St → Hp → Prop, (∀ σ' H', N σ' H' → ∃ m', m' < m ∧ W (i + 1) m' σ' H') ∧ ∀ x H', J.yld i H x H' → g x σ H' fun σ2 H2 => tb { D with nx := N, ct := N, bk := D.nx } σ2 H2)
noncomputable def pinsAt (fp : List Addr) (h : Heap) : List (Addr × Obj) := fp.filterMap fun b => (h.get? b).map fun o => (b, o)
theorem mem_pinsAt {fp : List Addr} {h : Heap} {b : Addr} {o : Obj} (hb : b ∈ fp) (e : h.get? b = some o) : (b, o) ∈ pinsAt fp h := List.mem_filterMap.mpr ⟨b, hb, by rw [e]; rfl⟩
theorem of_pinsAt {fp : List Addr} {h : Heap} {p : Addr × Obj} (hp : p ∈ pinsAt fp h) : p.1 ∈ fp ∧ h.get? p.1 = some p.2 := by
  obtain ⟨b, hb, e⟩ := List.mem_filterMap.mp hp
  cases q : h.get? b with
  | none => rw [q] at e; cases e
  | some o =>
    rw [q] at e
    have e' : (b, o) = p := Option.some.inj e
    subst e'
    exact ⟨hb, q⟩
theorem Inv.pinned {pins : List (Addr × Obj)} {σ : St} {H : Hp} {s : Shared} {fp : List Addr} (I : Inv X pins σ H s) (hf : ∀ b ∈ fp, FpOk X pins H b) (ho : ∀ b ∈ fp, ∃ o, s.heap.get? b = some o ∧ ∀ v, o.data ≠ .cell v) : Inv X (pins ++ pinsAt fp s.heap) σ H s :=
  I.pins_of fun p hp => (List.mem_append.mp hp).elim (fun z => I.pin p (List.mem_append_right _ z)) fun z => by
    obtain ⟨hb, e⟩ := of_pinsAt z
    obtain ⟨f0, f1, f2, _⟩ := hf p.1 hb
    obtain ⟨o, e', d⟩ := ho p.1 hb
    rw [e] at e'; cases e'
    exact ⟨e, f0, f1, f2, d⟩
theorem Inv.unpinned {pins pl : List (Addr × Obj)} {σ : St} {H : Hp} {s : Shared} (I : Inv X (pins ++ pl) σ H s) : Inv X pins σ H s := I.pins_of fun p hp => I.pin p (List.mem_append_right _ (List.mem_append_left _ hp))
theorem ps_for {iter : Expr} {body : List Stmt} {wi : TI} {g : TG} {tb : TS} {pos : Pos} (hp : PassesOwn (model X.prog X.w) X.A X.env X.xe) (hc : X.calm = true) (hi : PI X tg iter wi) (hg : PG X tg g) (hb : PSs X body tb)
    (hs : ∀ x, foldedSetIterable iter X.env x = pure x := by intro _; rfl) : PS X (.For tg iter body [] pos) (tFor wi g tb) := by
  intro pins s σ H D I h
  refine wpAny_For (thn (hi pins s σ H _ I h) fun v s1 h1 => thn h1 fun itv s2 h2 => ?_) hs
  obtain ⟨it, fp, tn, J, H2, e, I2, T, st2, f2, W, ⟨m0, w0⟩, turn⟩ := h2
  subst e
  have stat : ∀ {H' : Hp}, (∀ b ∈ fp, H' b = none) → ∀ b ∈ fp, FpOk X pins H' b := fun hn b hb => ⟨hn b hb, (f2 b hb).2⟩
  refine codeAny_forLoop_any (fun n s' => ∃ i σ' H', Inv X pins σ' H' s' ∧ tn i s'.heap ∧ (∀ b ∈ fp, H' b = none) ∧ W i n σ' H') ?_ m0 ⟨0, σ, H2, I2, st2, fun b hb => (f2 b hb).1, w0⟩
  rintro n s3 ⟨i, σ3, H3, I3, st3, fr3, w3⟩
  rcases turn i n σ3 H3 w3 with ⟨stop, qn⟩ | ⟨go, N, hN, step⟩
  · refine wpAny_passesOwn hp (thn (T.done X rfl rfl rfl hc i pins s3 σ3 H3 X.xe I3 (stat fr3) st3 stop) fun r s4 ⟨hr, I4⟩ => ?_)
    subst hr
    exact wpAny_execs_nil ⟨σ3, H3, I4, qn⟩
  · refine wpAny_passesOwn hp (thn (T.item X rfl rfl rfl hc i pins s3 σ3 H3 X.xe I3 (stat fr3) st3 go) fun r s4 ⟨u, hr, h4⟩ => ?_)
    subst hr
    refine wpAny_passesOwn hp (thn h4 fun _ s5 hz18 => ?_)
    obtain ⟨x, H5, I5, r5, y5, st5, fr5⟩ := hz18
    have I5' := I5.pinned (stat fr5) (T.obj _ _ st5)
    refine wpAny_passesOwn hp (thn (hg _ s5 σ3 H5 x u _ I5' r5 (step x H5 y5)) fun _ s6 hz19 => ?_)
    obtain ⟨σ6, H6, I6, q6⟩ := hz19
    refine wpAny_passesOwn hp (thn (hb _ s6 σ6 H6 _ I6 q6) fun f s7 q7 => ?_)
    have again : ∀ {σ7 : St} {H7 : Hp}, Inv X (pins ++ pinsAt fp s5.heap) σ7 H7 s7 → N σ7 H7 → ∃ m, m < n ∧ ∃ i σ' H', Inv X pins σ' H' s7 ∧ tn i s7.heap ∧ (∀ b ∈ fp, H' b = none) ∧ W i m σ' H' := fun {σ7 H7} I7 n7 => by
      obtain ⟨m', hm, w7⟩ := hN σ7 H7 n7
      refine ⟨m', hm, i + 1, σ7, H7, I7.unpinned, T.keep _ _ _ st5 fun b hb o e => (I7.pin (b, o) (List.mem_append_right _ (List.mem_append_right _ (mem_pinsAt hb e)))).1, fun b hb => ?_, w7⟩
      obtain ⟨o, e, d⟩ := T.obj _ _ st5 b hb
      exact (I7.pin (b, o) (List.mem_append_right _ (List.mem_append_right _ (mem_pinsAt hb e)))).2.1
    cases f with
    | next => obtain ⟨σ7, H7, I7, n7⟩ := q7; exact again I7 n7
    | cont => obtain ⟨σ7, H7, I7, n7⟩ := q7; exact again I7 n7
    | brk => obtain ⟨σ7, H7, I7, q7⟩ := q7; exact ⟨σ7, H7, I7.unpinned, q7⟩
    | ret v => obtain ⟨x7, σ7, H7, I7, r7, q7⟩ := q7; exact ⟨x7, σ7, H7, I7.unpinned, r7, q7⟩
end
theorem for_range {lo : Int} {n : Nat} {g : TG} {tb : TS} {D : Ends} {σ : St} {H : Hp} (Pv : Nat → St → Hp → Prop) (h0 : Pv 0 σ H)
    (hs : ∀ i σ H, i < n → Pv i σ H → g (.int (lo + i)) σ H fun σ2 H2 => tb { D with nx := Pv (i + 1), ct := Pv (i + 1), bk := D.nx } σ2 H2) (hd : ∀ σ H, Pv n σ H → D.nx σ H) :
    ∃ W : Nat → Nat → St → Hp → Prop, (∃ m, W 0 m σ H) ∧ ∀ i m σ H, W i m σ H →
      ((Itr lo n).stop i H ∧ D.nx σ H) ∨ ((Itr lo n).go i H ∧ ∃ N : St → Hp → Prop, (∀ σ' H', N σ' H' → ∃ m', m' < m ∧ W (i + 1) m' σ' H') ∧ ∀ x H', (Itr lo n).yld i H x H' → g x σ H' fun σ2 H2 => tb { D with nx := N, ct := N, bk := D.nx } σ2 H2) := by
  refine ⟨fun i m σ H => m = n - i ∧ i ≤ n ∧ Pv i σ H, ⟨n, by simp, Nat.zero_le _, h0⟩, ?_⟩
  rintro i m σ H ⟨rfl, hi, p⟩
  by_cases hlt : i < n
  · refine .inr ⟨hlt, Pv (i + 1), fun σ' H' p' => ⟨n - (i + 1), by omega, rfl, hlt, p'⟩, fun x H' y => ?_⟩
    obtain ⟨e, y⟩ := y
    subst e y
    exact hs i σ _ hlt p
  · have e : i = n := by omega
    subst e
    exact .inl ⟨Nat.le_refl _, hd σ H p⟩
end L2
namespace L2
open PySem PySem.Spec PyProof.Rows
noncomputable abbrev R2 := V → V → Hp → VK → Prop
noncomputable def OpR (X : Cx) (f : Value → Value → Sem Value) (r : R2) : Prop :=
  ∀ (pins : List (Addr × Obj)) (s : Shared) (σ : St) (H : Hp) (x y : V) (v u : Value) (Q : VK), Inv X pins σ H s → RelV x v → RelV y u → r x y H Q →
    wpAny (model X.prog X.w) X.A (f v u) (EP X pins σ Q) X.xe s
noncomputable def CallR (X : Cx) (f : Value) (r : List V → Hp → VK → Prop) : Prop :=
  ∀ (pins : List (Addr × Obj)) (s : Shared) (σ : St) (H : Hp) (xs : List V) (us : List Value) (Q : VK), Inv X pins σ H s → Vals xs us → r xs H Q →
    wpAny (model X.prog X.w) X.A (call f us) (EP X pins σ Q) X.xe s
noncomputable def tOp (r : R2) (ta tb : TE) : TE := fun σ H Q => ta σ H fun x H1 => tb σ H1 fun y H2 => r x y H2 Q
noncomputable def rI (C : Int → Int → Prop) (g : Int → Int → V) : R2 := fun x y H Q => ∃ i j, x = .int i ∧ y = .int j ∧ C i j ∧ Q (g i j) H
noncomputable def rI0 (g : Int → Int → V) : R2 := fun x y H Q => ∃ i j, x = .int i ∧ y = .int j ∧ Q (g i j) H
section
variable {X : Cx} {a b c : Expr} {ta tb tc : TE} {pos : Pos}
theorem binT (ha : PE X a ta) (hb : PE X b tb) {pins : List (Addr × Obj)} {s : Shared} {σ : St} {H : Hp} {R : V → V → Hp → Prop} (I : Inv X pins σ H s)
    (h : ta σ H fun x H1 => tb σ H1 fun y H2 => R x y H2) {Q : Value → Shared → Prop} {f : Value → Value → Sem Value}
    (hf : ∀ v u s2 x y H2, Inv X pins σ H2 s2 → RelV x v → RelV y u → R x y H2 → wpAny (model X.prog X.w) X.A (f v u) Q X.xe s2) :
    wpAny (model X.prog X.w) X.A (eval a X.env) (fun v s₁ => wpAny (model X.prog X.w) X.A (eval b X.env) (fun u s₂ => wpAny (model X.prog X.w) X.A (f v u) Q X.xe s₂) X.xe s₁) X.xe s := by
  refine thn (ha pins s σ H _ I h) fun v s1 hz20 => ?_
  obtain ⟨x, H1, I1, r1, q1⟩ := hz20
  refine thn (hb pins s1 σ H1 _ I1 q1) fun u s2 hz21 => ?_
  obtain ⟨y, H2, I2, r2, q2⟩ := hz21
  exact hf v u s2 x y H2 I2 r1 r2 q2
theorem pe_op {op : Operator} {r : R2} (ho : OpR X (binaryOp op) r) (ha : PE X a ta) (hb : PE X b tb) : PE X (.BinOp a op b pos) (tOp r ta tb) := by
  intro pins s σ H Q I h
  exact wpAny_BinOp (binT ha hb I h fun v u s2 x y H2 I2 rx ry q => ho pins s2 σ H2 x y v u Q I2 rx ry q)
theorem opI {f : Value → Value → Sem Value} {C : Int → Int → Prop} {g : Int → Int → Int}
    (rule : ∀ (i j : Int) (t u : Tok) (s : Shared) (Q : Value → Shared → Prop) (E : Value → Shared → Prop), C i j → Q (.int (g i j) s.toks) { s with toks := s.toks + 1 } → wpAny (model X.prog X.w) X.A (f (.int i t) (.int j u)) Q E s) :
    OpR X f (rI C fun i j => .int (g i j)) := by
  intro pins s σ H x y v u Q I rx ry h
  obtain ⟨i, j, rfl, rfl, hc, q⟩ := h
  obtain ⟨t, rfl⟩ := rx
  obtain ⟨t', rfl⟩ := ry
  exact rule i j t t' s _ _ hc ⟨.int (g i j), H, I.tok _, ⟨_, rfl⟩, q⟩
theorem opI0 {f : Value → Value → Sem Value} {g : Int → Int → Int}
    (rule : ∀ (i j : Int) (t u : Tok) (s : Shared) (Q : Value → Shared → Prop) (E : Value → Shared → Prop), Q (.int (g i j) s.toks) { s with toks := s.toks + 1 } → wpAny (model X.prog X.w) X.A (f (.int i t) (.int j u)) Q E s) :
    OpR X f (rI0 fun i j => .int (g i j)) := by
  intro pins s σ H x y v u Q I rx ry h
  obtain ⟨i, j, rfl, rfl, q⟩ := h
  obtain ⟨t, rfl⟩ := rx
  obtain ⟨t', rfl⟩ := ry
  exact rule i j t t' s _ _ ⟨.int (g i j), H, I.tok _, ⟨_, rfl⟩, q⟩
theorem opB0 {f : Value → Value → Sem Value} {g : Int → Int → Bool}
    (rule : ∀ (i j : Int) (t u : Tok) (s : Shared) (Q : Value → Shared → Prop) (E : Value → Shared → Prop), Q (.bool (g i j)) s → wpAny (model X.prog X.w) X.A (f (.int i t) (.int j u)) Q E s) :
    OpR X f (rI0 fun i j => .bl (g i j)) := by
  intro pins s σ H x y v u Q I rx ry h
  obtain ⟨i, j, rfl, rfl, q⟩ := h
  obtain ⟨t, rfl⟩ := rx
  obtain ⟨t', rfl⟩ := ry
  exact rule i j t t' s _ _ ⟨.bl (g i j), H, I, rfl, q⟩
noncomputable def CDiv (i j : Int) : Prop := 0 < j ∧ j < 1073741824
noncomputable def CMul (i j : Int) : Prop := (-(2 ^ 64) < i ∧ i < 2 ^ 64) ∨ (-(2 ^ 64) < j ∧ j < 2 ^ 64)
theorem CMul.ok {i j : Int} (h : CMul i j) : IntMulOk i j := by
  rcases h with ⟨h1, h2⟩ | ⟨h1, h2⟩
  · exact .of_left (intBits_le_64 h1 h2)
  · exact .of_right (intBits_le_64 h1 h2)
theorem op_add : OpR X (binaryOp .Add) (rI0 fun i j => .int (i + j)) := opI0 fun _ _ _ _ _ _ _ q => add_int q
theorem op_sub : OpR X (binaryOp .Sub) (rI0 fun i j => .int (i - j)) := opI0 fun _ _ _ _ _ _ _ q => sub_int q
theorem op_mul : OpR X (binaryOp .Mult) (rI CMul fun i j => .int (i * j)) := opI fun _ _ _ _ _ _ _ hc q => mul_int q hc.ok
theorem op_fdiv : OpR X (binaryOp .FloorDiv) (rI CDiv fun i j => .int (i / j)) := opI fun i j _ _ _ _ _ hc q => by
  have h1 : (0 : Int) < j := hc.1
  have h2 : j < 1073741824 := hc.2
  exact floordiv_int (by omega) (by rw [Int.fdiv_eq_ediv_of_nonneg i (by omega)]; exact q) (.inl (PyProof.noPylong_small (by omega)))
theorem op_mod : OpR X (binaryOp .Mod) (rI (fun _ j => 0 < j) fun i j => .int (i % j)) := opI fun i j _ _ _ _ _ hc q => by
  have h1 : (0 : Int) < j := hc
  exact mod_int' (by omega) (by rw [Int.fmod_eq_emod_of_nonneg i (by omega)]; exact q)
end
noncomputable def scal : V → V → Bool
  | .non, .non => true | .non, .int _ => true | .int _, .non => true | .non, .bl _ => true | .bl _, .non => true | .non, .str _ => true | .str _, .non => true
  | .int _, .int _ => true | .bl _, .bl _ => true | .str _, .str _ => true | .byt _, .byt _ => true
  | .int _, .str _ => true | .str _, .int _ => true | .bl _, .str _ => true | .str _, .bl _ => true
  | _, _ => false
noncomputable def rEq : R2 := fun x y H Q => scal x y = true ∧ Q (.bl (decide (x = y))) H
noncomputable def rNe : R2 := fun x y H Q => scal x y = true ∧ Q (.bl (!decide (x = y))) H
theorem dec_int {i j : Int} : decide (V.int i = V.int j) = (i == j) := by
  rw [Bool.eq_iff_iff]
  simp
theorem dec_bl {i j : Bool} : decide (V.bl i = V.bl j) = (i == j) := by
  rw [Bool.eq_iff_iff]
  simp
theorem dec_str {i j : Str} : decide (V.str i = V.str j) = (i == j) := by
  rw [Bool.eq_iff_iff]
  simp
theorem dec_byt {i j : Array UInt8} : decide (V.byt i = V.byt j) = (i.toList == j.toList) := by
  rw [Bool.eq_iff_iff]
  cases i
  cases j
  simp
section
variable {X : Cx} {a b c : Expr} {ta tb tc : TE} {pos : Pos}
theorem fin_bl {pins : List (Addr × Obj)} {σ : St} {H : Hp} {s : Shared} {Q : VK} {k k' : Bool} (I : Inv X pins σ H s) (q : Q (.bl k) H) (e : k = k') : EP X pins σ Q (.bool k') s := by
  subst e
  exact ⟨.bl k, H, I, rfl, q⟩
theorem op_eq : OpR X (compareOp .Eq) rEq := by
  intro pins s σ H x y v u Q I rx ry h
  obtain ⟨hs, q⟩ := h
  cases x with
  | non =>
    cases rx
    cases y with
    | non => cases ry; exact PySem.EqNone.eq_none_none (fin_bl I q (by simp))
    | bl j => cases ry; exact PySem.EqNone.eq_none_bool (fin_bl I q (by simp))
    | int j => obtain ⟨t', rfl⟩ := ry; exact PySem.EqNone.eq_none_int (fin_bl I q (by simp))
    | str j => obtain ⟨t', rfl⟩ := ry; exact PySem.EqNone.eq_none_str (fin_bl I q (by simp))
    | _ => exact absurd (show false = true from hs) Bool.false_ne_true
  | bl i =>
    cases rx
    cases y with
    | non => cases ry; exact PySem.EqNone.eq_bool_none (fin_bl I q (by simp))
    | bl j => cases ry; exact eq_bool (fin_bl I q dec_bl)
    | str j => obtain ⟨t', rfl⟩ := ry; exact PySem.EqMixed.eq_bool_str (fin_bl I q (by simp))
    | _ => exact absurd (show false = true from hs) Bool.false_ne_true
  | int i =>
    obtain ⟨t, rfl⟩ := rx
    cases y with
    | non => cases ry; exact PySem.EqNone.eq_int_none (fin_bl I q (by simp))
    | int j => obtain ⟨t', rfl⟩ := ry; exact eq_int (fin_bl I q dec_int)
    | str j => obtain ⟨t', rfl⟩ := ry; exact PySem.EqMixed.eq_int_str (fin_bl I q (by simp))
    | _ => exact absurd (show false = true from hs) Bool.false_ne_true
  | str i =>
    obtain ⟨t, rfl⟩ := rx
    cases y with
    | non => cases ry; exact PySem.EqNone.eq_str_none (fin_bl I q (by simp))
    | bl j => cases ry; exact PySem.EqMixed.eq_str_bool (fin_bl I q (by simp))
    | int j => obtain ⟨t', rfl⟩ := ry; exact PySem.EqMixed.eq_str_int (fin_bl I q (by simp))
    | str j => obtain ⟨t', rfl⟩ := ry; exact eq_str (fin_bl I q dec_str)
    | _ => exact absurd (show false = true from hs) Bool.false_ne_true
  | byt i =>
    obtain ⟨t, rfl⟩ := rx
    cases y with
    | byt j => obtain ⟨t', rfl⟩ := ry; exact PySem.W.eq_bytes (fin_bl I q dec_byt)
    | _ => exact absurd (show false = true from hs) Bool.false_ne_true
  | _ => cases y <;> exact absurd (show false = true from hs) Bool.false_ne_true
theorem op_ne : OpR X (compareOp .NotEq) rNe := by
  intro pins s σ H x y v u Q I rx ry h
  obtain ⟨hs, q⟩ := h
  cases x with
  | non =>
    cases rx
    cases y with
    | non => cases ry; exact PySem.EqNone.ne_none_none (fin_bl I q (by simp))
    | bl j => cases ry; exact PySem.EqNone.ne_none_bool (fin_bl I q (by simp))
    | int j => obtain ⟨t', rfl⟩ := ry; exact PySem.EqNone.ne_none_int (fin_bl I q (by simp))
    | str j => obtain ⟨t', rfl⟩ := ry; exact PySem.EqNone.ne_none_str (fin_bl I q (by simp))
    | _ => exact absurd (show false = true from hs) Bool.false_ne_true
  | bl i =>
    cases rx
    cases y with
    | non => cases ry; exact PySem.EqNone.ne_bool_none (fin_bl I q (by simp))
    | bl j => cases ry; exact ne_bool (fin_bl I q (congrArg not dec_bl))
    | str j => obtain ⟨t', rfl⟩ := ry; exact PySem.EqMixed.ne_bool_str (fin_bl I q (by simp))
    | _ => exact absurd (show false = true from hs) Bool.false_ne_true
  | int i =>
    obtain ⟨t, rfl⟩ := rx
    cases y with
    | non => cases ry; exact PySem.EqNone.ne_int_none (fin_bl I q (by simp))
    | int j => obtain ⟨t', rfl⟩ := ry; exact ne_int (fin_bl I q (congrArg not dec_int))
    | str j => obtain ⟨t', rfl⟩ := ry; exact PySem.EqMixed.ne_int_str (fin_bl I q (by simp))
    | _ => exact absurd (show false = true from hs) Bool.false_ne_true
  | str i =>
    obtain ⟨t, rfl⟩ := rx
    cases y with
    | non => cases ry; exact PySem.EqNone.ne_str_none (fin_bl I q (by simp))
    | bl j => cases ry; exact PySem.EqMixed.ne_str_bool (fin_bl I q (by simp))
    | int j => obtain ⟨t', rfl⟩ := ry; exact PySem.EqMixed.ne_str_int (fin_bl I q (by simp))
    | str j => obtain ⟨t', rfl⟩ := ry; exact ne_str (fin_bl I q (congrArg not dec_str))
    | _ => exact absurd (show false = true from hs) Bool.false_ne_true
  | byt i =>
    obtain ⟨t, rfl⟩ := rx
    cases y with
    | byt j => obtain ⟨t', rfl⟩ := ry; exact PySem.W.ne_bytes (fin_bl I q (congrArg not dec_byt))
    | _ => exact absurd (show false = true from hs) Bool.false_ne_true
  | _ => cases y <;> exact absurd (show false = true from hs) Bool.false_ne_true
theorem op_lt : OpR X (compareOp .Lt) (rI0 fun i j => .bl (decide (i < j))) := opB0 fun _ _ _ _ _ _ _ q => lt_int q
theorem op_le : OpR X (compareOp .LtE) (rI0 fun i j => .bl (decide (i ≤ j))) := opB0 fun _ _ _ _ _ _ _ q => le_int q
theorem op_gt : OpR X (compareOp .Gt) (rI0 fun i j => .bl (decide (j < i))) := opB0 fun _ _ _ _ _ _ _ q => gt_int q
theorem op_in_str : OpR X (compareOp .In) (fun x y H Q => ∃ i j, x = .str i ∧ y = .str j ∧ Q (.bl (!(Builtin.Str.occurrences j i 0 j.length 1).isEmpty)) H) := by
  intro pins s σ H x y v u Q I rx ry h
  obtain ⟨i, j, rfl, rfl, q⟩ := h
  obtain ⟨t, rfl⟩ := rx
  obtain ⟨t', rfl⟩ := ry
  exact in_str (fin_bl I q rfl)
theorem op_isN : OpR X (compareOp .Is) (fun x y H Q => y = .non ∧ Q (.bl (decide (x = .non))) H) := by
  intro pins s σ H x y v u Q I rx ry h
  obtain ⟨rfl, q⟩ := h
  cases ry
  refine is_none_gen (fin_bl I q ?_)
  cases x <;> first
    | (cases rx; rfl)
    | (obtain ⟨t, rfl⟩ := rx; rfl)
theorem op_notN : OpR X (compareOp .IsNot) (fun x y H Q => y = .non ∧ Q (.bl (!decide (x = .non))) H) := by
  intro pins s σ H x y v u Q I rx ry h
  obtain ⟨rfl, q⟩ := h
  cases ry
  refine isnot_none_gen (fin_bl I q ?_)
  cases x <;> first
    | (cases rx; rfl)
    | (obtain ⟨t, rfl⟩ := rx; rfl)
theorem nomark (b : Expr) {op : CmpOp} (h : op ≠ .In := by decide) (h2 : op ≠ .NotIn := by decide) : behindInMarks op b = false := by
  have e1 : (op == CmpOp.In) = false := by cases op <;> first | rfl | exact absurd rfl h
  have e2 : (op == CmpOp.NotIn) = false := by cases op <;> first | rfl | exact absurd rfl h2
  cases b <;> simp [behindInMarks, e1, e2]
theorem pe_cmpR {op : CmpOp} {r : R2} (ho : OpR X (compareOp op) r) (ha : PE X a ta) (hb : PE X b tb) (hm : behindInMarks op b = false) : PE X (.Compare a [op] [b] pos) (tOp r ta tb) := by
  intro pins s σ H Q I h
  exact wpAny_Compare1 (binT ha hb I h fun v u s2 x y H2 I2 rx ry q => ho pins s2 σ H2 x y v u Q I2 rx ry q) hm
noncomputable def tTest (t : TE) : TT := fun σ H Q => t σ H fun x H' => ∃ k, x = .bl k ∧ Q k H'
theorem pt_cmpR {op : CmpOp} {r : R2} (ho : OpR X (compareOp op) r) (ha : PE X a ta) (hb : PE X b tb) (hm : behindInMarks op b = false) : PT X (.Compare a [op] [b] pos) (tTest (tOp r ta tb)) := by
  intro pins s σ H Q I h
  refine wpAny_isTrue_Compare1 (thn (ha pins s σ H _ I h) fun v s1 ⟨x, H1, I1, r1, q1⟩ => thn (hb pins s1 σ H1 _ I1 q1) fun u s2 ⟨y, H2, I2, r2, q2⟩ =>
    thn (ho pins s2 σ H2 x y v u _ I2 r1 r2 q2) fun c s3 ⟨z, H3, I3, r3, k, e, q3⟩ => ?_) hm
  subst e
  cases r3
  exact wpAny_truthy_bool ⟨H3, I3, q3⟩
noncomputable def tChain (r r' : R2) (ta tb tc : TE) : TE := fun σ H Q => ta σ H fun x H1 => tb σ H1 fun y H2 => r x y H2 fun z H3 => ∃ k, z = .bl k ∧
  (if k = true then tc σ H3 fun w' H4 => r' y w' H4 Q else Q (.bl false) H3)
theorem pe_chain {op op' : CmpOp} {r r' : R2} (ho : OpR X (compareOp op) r) (ho' : OpR X (compareOp op') r') (ha : PE X a ta) (hb : PE X b tb) (hc : PE X c tc)
    (hm : lastMarks [op, op'] [b, c] = false := by with_unfolding_all rfl) : PE X (.Compare a [op, op'] [b, c] pos) (tChain r r' ta tb tc) := by
  intro pins s σ H Q I h
  refine Compare_chain (thn (ha pins s σ H _ I h) fun v s1 ⟨x, H1, I1, r1, q1⟩ => chain_link (thn (hb pins s1 σ H1 _ I1 q1) fun u s2 ⟨y, H2, I2, r2, q2⟩ =>
    thn (ho pins s2 σ H2 x y v u _ I2 r1 r2 q2) fun d s3 ⟨z, H3, I3, r3, k, e, q3⟩ => ?_)) hm
  subst e
  cases r3
  refine wpAny_truthy_bool ?_
  cases k with
  | false => exact ite_ff ⟨.bl false, H3, I3, rfl, q3⟩
  | true => exact ite_tt (chain_last (thn (hc pins s3 σ H3 _ I3 q3) fun w' s4 ⟨z', H4, I4, r4, q4⟩ => ho' pins s4 σ H4 y z' u w' Q I4 r2 r4 q4))
theorem pt_chain {op op' : CmpOp} {r r' : R2} (ho : OpR X (compareOp op) r) (ho' : OpR X (compareOp op') r') (ha : PE X a ta) (hb : PE X b tb) (hc : PE X c tc)
    (hm : lastMarks [op, op'] [b, c] = false := by with_unfolding_all rfl) : PT X (.Compare a [op, op'] [b, c] pos) (tTest (tChain r r' ta tb tc)) := by
  intro pins s σ H Q I h
  refine isTrue_chain (thn (ha pins s σ H _ I h) fun v s1 ⟨x, H1, I1, r1, q1⟩ => test_link (thn (hb pins s1 σ H1 _ I1 q1) fun u s2 ⟨y, H2, I2, r2, q2⟩ =>
    thn (ho pins s2 σ H2 x y v u _ I2 r1 r2 q2) fun d s3 ⟨z, H3, I3, r3, k, e, q3⟩ => ?_)) hm
  subst e
  cases r3
  refine wpAny_truthy_bool ?_
  cases k with
  | false =>
    obtain ⟨k', e', q'⟩ := q3
    cases e'
    exact ite_ff ⟨H3, I3, q'⟩
  | true =>
    refine ite_tt (test_last (thn (hc pins s3 σ H3 _ I3 q3) fun w' s4 hz22 => ?_))
    obtain ⟨z', H4, I4, r4, q4⟩ := hz22
    refine thn (ho' pins s4 σ H4 y z' u w' _ I4 r2 r4 q4) fun d' s5 hz23 => ?_
    obtain ⟨z2, H5, I5, r5, k2, e2, q5⟩ := hz23
    subst e2
    cases r5
    exact wpAny_truthy_bool ⟨H5, I5, q5⟩
theorem line63 : (sizeLine : Nat) < 2 ^ 63 := by rw [sizeLine_eq]; decide
theorem op_add_str : OpR X (binaryOp .Add) (fun x y H Q => ∃ i j, x = .str i ∧ y = .str j ∧ i.length + j.length ≤ sizeLine ∧ Q (.str (i ++ j)) H) := by
  intro pins s σ H x y v u Q I rx ry h
  obtain ⟨i, j, rfl, rfl, hz, q⟩ := h
  obtain ⟨t, rfl⟩ := rx
  obtain ⟨t', rfl⟩ := ry
  exact add_str (fun t' tk => ⟨.str (i ++ j), H, I.tok _, ⟨_, rfl⟩, q⟩) hz
theorem vals1 {x : V} {us : List Value} (r : Vals [x] us) : ∃ u, us = [u] ∧ RelV x u := by
  cases r with
  | cons r1 r2 => cases r2; exact ⟨_, rfl, r1⟩
theorem vals2 {x y : V} {us : List Value} (r : Vals [x, y] us) : ∃ u w', us = [u, w'] ∧ RelV x u ∧ RelV y w' := by
  cases r with
  | cons r1 r2 =>
    cases r2 with
    | cons r3 r4 => cases r4; exact ⟨_, _, rfl, r1, r3⟩
theorem call_min2 (hc : X.calm = true) : CallR X (.builtin "min") (fun xs H Q => ∃ i j, xs = [.int i, .int j] ∧ Q (.int (if j < i then j else i)) H) := by
  intro pins s σ H xs us Q I r h
  obtain ⟨i, j, rfl, q⟩ := h
  obtain ⟨u, w', rfl, ⟨t, rfl⟩, ⟨t', rfl⟩⟩ := vals2 r
  refine min_two_ints (I.ok.hd hc) fun h' tk k => ⟨_, H, I.kept k, ?_, q⟩
  by_cases hj : j < i
  · rw [if_pos hj, if_pos hj]; exact ⟨_, rfl⟩
  · rw [if_neg hj, if_neg hj]; exact ⟨_, rfl⟩
noncomputable def LenV (K : PySem.W.Frag) (x : V) (H : Hp) (n : Nat) : Prop :=
  match x with
  | .str y => y.length ≤ sizeLine ∧ n = y.length
  | .byt y => y.size ≤ sizeLine ∧ n = y.size
  | .ref p => (∃ xs, SqL K H p xs ∧ n = xs.length) ∨ ∃ xs, SqT K H p xs ∧ n = xs.length
  | _ => False
theorem call_len : CallR X (.builtin "len") (fun xs H Q => ∃ x n, xs = [x] ∧ LenV X.K x H n ∧ Q (.int n) H) := by
  intro pins s σ H xs us Q I r h
  obtain ⟨x, n, rfl, e, q⟩ := h
  obtain ⟨u, rfl, rx⟩ := vals1 r
  have hl := line63
  have hs : sizeLine = 16777216 := sizeLine_eq
  cases x with
  | str y =>
    obtain ⟨t, rfl⟩ := rx
    obtain ⟨hy, e'⟩ : y.length ≤ sizeLine ∧ n = y.length := e
    subst e'
    exact len_str (by omega) ⟨.int _, H, I.tok _, ⟨_, rfl⟩, q⟩
  | byt y =>
    obtain ⟨t, rfl⟩ := rx
    obtain ⟨hy, e'⟩ : y.size ≤ sizeLine ∧ n = y.size := e
    subst e'
    exact PySem.W.len_bytes (by omega) ⟨.int _, H, I.tok _, ⟨_, rfl⟩, q⟩
  | ref p =>
    cases rx
    have e' : (∃ xs, SqL X.K H p xs ∧ n = xs.length) ∨ ∃ xs, SqT X.K H p xs ∧ n = xs.length := e
    rcases e' with ⟨xs, hx, e'⟩ | ⟨xs, hx, e'⟩
    · subst e'
      obtain ⟨its, r', pl, hz⟩ := I.list hx
      have hlen := r'.length
      exact Calls.call_len_list pl.isList (by simp only [List.size_toArray]; omega) ⟨.int xs.length, H, I.tok _, ⟨_, by simp only [List.size_toArray]; rw [hlen]⟩, q⟩
    · subst e'
      obtain ⟨its, r', pl, hz⟩ := I.tuple hx
      have hlen := r'.length
      exact len_tuple pl (by simp only [List.size_toArray]; omega) ⟨.int xs.length, H, I.tok _, ⟨_, by simp only [List.size_toArray]; rw [hlen]⟩, q⟩
  | _ => exact (show False from e).elim
end
end L2
namespace L2
open PySem PySem.Spec PyProof.Rows
structure ObjM (h : Heap) (x dx C : Addr) (mA : Str → Option Value) : Prop where
  obj : h.get? x = some (PySem.W.instObj C dx)
  ns : h.Ns1 dx mA
  ne : dx ≠ x
theorem lookIn_ns {h : Heap} {dx : Addr} {mA : Str → Option Value} (n : h.Ns1 dx mA) : ∃ od, h.get? dx = some od ∧ ∀ name, PySem.W.lookIn name od = some (mA name) := by
  obtain ⟨o, es, ep, ho, hd, hk, _, hm⟩ := n
  refine ⟨o, ho, fun name => ?_⟩
  have e := hm name
  unfold nsFind findBy at e
  rw [← Array.find?_toList] at e
  unfold PySem.W.lookIn
  rw [hd]
  dsimp only
  split
  · rename_i y q
    rw [q] at e
    exact congrArg some e
  · rename_i q
    rw [q] at e
    have a : es.toList.any (·.refKey) = false := by
      rw [List.any_eq_false]
      intro y hy
      obtain ⟨z, t, hkey⟩ := hk y (Array.mem_toList_iff.mp hy)
      simp [DictEntry.refKey, hkey]
    have a' : ¬ es.toList.any (·.refKey) = true := by rw [a]; exact Bool.false_ne_true
    rw [if_neg a']
    exact congrArg some e
theorem ObjM.look {h : Heap} {x dx C : Addr} {mA : Str → Option Value} (I : ObjM h x dx C mA) : ∃ od, PySem.W.InstAt h x (PySem.W.instObj C dx) C (some od) ∧ ∀ name, PySem.W.lookIn name od = some (mA name) :=
  let ⟨od, ho, hl⟩ := lookIn_ns I.ns
  ⟨od, ⟨I.obj, rfl, rfl, ho⟩, hl⟩
section
variable {prog : Program} {w : World} {A : Around} {E : Value → Shared → Prop} {s : Shared} {K : PySem.W.Frag} {x dx C f : Addr} {mA : Str → Option Value} {name : Str} {v : Value}
theorem get_map {expr : Bool} {Q : Value → Shared → Prop} (X : K.In s.heap) (I : ObjM s.heap x dx C mA) (hg : PySem.W.plainGet K C name = true) (hh : PySem.W.hasDictIn K C = true)
    (ha : PySem.W.findIn K (.ref C) name = some none) (hv : mA name = some v) (hv' : PySem.W.handedIn v = true) (h : Q v { s with toks := s.toks + 1 }) :
    wpAny (model prog w) A (getAttr (.ref x) name expr) Q E s := by
  obtain ⟨od, J, hl⟩ := I.look
  exact PySem.W.get_value X J (PySem.W.plainGet_of hg).1 (PySem.W.findObj_own hh ha rfl (by rw [hl, hv])) hv' h
theorem get_meth {pl : Sem Bool} {Q : Value × List Value → Shared → Prop} (X : K.In s.heap) (I : ObjM s.heap x dx C mA) (hg : PySem.W.plainGet K C name = true)
    (hf : PySem.W.findIn K (.ref C) name = some (some (.ref f))) (ht : PySem.W.isFn K (.ref f) = true) (hv : mA name = none) (h : Q (.ref f, [.ref x]) s) :
    wpAny (model prog w) A (getMethod (.ref x) name pl) Q E s := by
  obtain ⟨od, J, hl⟩ := I.look
  exact PySem.W.method_fn X J (PySem.W.plainGet_of hg).1 (PySem.W.plainGet_of hg).2 hf (beq_iff_eq.mp ht) (by show (PySem.W.lookIn name od).map (·.isSome) = some false; rw [hl, hv]; rfl) h
theorem set_map {ns : List Str} {Q : Unit → Shared → Prop} (X : K.In s.heap) (I : ObjM s.heap x dx C mA)
    (hs : PySem.W.findIn K (.ref C) "__setattr__" = some (some (.builtin "object.__setattr__"))) (hp : PySem.W.plainOver K C = true) (ht : PySem.W.takerIn K C name = some none) (hh : PySem.W.hasDictIn K C = true)
    (hw : PySem.Within mA ns) (hsz : ns.length ≤ sizeLine)
    (h : ∀ h', ObjM h' x dx C (fun y => if y = name then some v else mA y) → Heap.SameBut dx s.heap h' → Q () { s with heap := h', toks := s.toks + 2 }) :
    wpAny (model prog w) A (setAttr (.ref x) name v) Q E s := by
  obtain ⟨od, J, hl⟩ := I.look
  refine PySem.W.set_plain X J hs (PySem.W.osa_open (s := { s with toks := s.toks + 1 }) (r := none) X J hp ht fun b => ?_)
  obtain ⟨cd, hc, hd'⟩ := PySem.W.any_some hh
  have hx : s.heap.get? x = some ⟨.ref C, some dx, .plain, #[]⟩ := I.obj
  refine wpAny_bind (wpAny_pure (wpAny_bind (wpAny_bind (wpAny_loadPart hx (wpAny_bind (PySem.W.Looks.here (s := { s with toks := s.toks + 1 }) (PySem.W.looks_clsIn X hc) ?_))))))
  rw [hd']
  refine wpAny_pure (a := some dx) (wpAny_bind (wpAny_pure (wpAny_bind ?_)))
  refine wpAny_nsSet1 (s := { s with toks := s.toks + 1 }) I.ns fun h' hn2 hs2 => ?_
  obtain ⟨oD, esD, epD, hoD, hdD, hcD⟩ := hn2.count (PySem.Within.cons name v hw)
  refine wpAny_bind (wpAny_lookBehind hoD (by rw [hdD]; exact pastItsLine_dict (Nat.le_trans hcD (by rw [List.length_cons]; omega))) ?_)
  exact wpAny_pure (h _ ⟨(hs2.2 _ (Ne.symm I.ne)).trans I.obj, hn2, I.ne⟩ hs2)
theorem make_map {R : Result → Shared → Prop} {vs : List Value} {kw : List (Str × Value)} (X : K.In s.heap) (hm : PySem.W.makesIn K C = true)
    (hi : PySem.W.findIn K (.ref C) "__init__" = some (some (.ref f))) (hf : PySem.W.typeIn K (.ref f) = some (.type "function"))
    (h : codeAny (model prog w) (A.under (.builtin "type.__call__" ⟨.ref C :: vs, kw⟩)) (.call (.ref f) ⟨.ref (s.heap.objs.size + 1) :: vs, kw⟩) (PySem.W.InitBack (s.heap.objs.size + 1) R)
      { s with heap := (s.heap.push PySem.W.emptyDict).push (PySem.W.instObj C s.heap.objs.size) }) :
    codeAny (model prog w) A (.call (.ref C) ⟨vs, kw⟩) R s := by
  obtain ⟨hh, g, d, t, os⟩ := s
  exact PySem.W.make_core (PySem.W.makes_of X hm) (PySem.W.looks_findIn X hi) (fun self => PySem.W.bind_fn X self hf) (.inl rfl) h
end
noncomputable def putF (f : Str) (v : V) : List (Str × V) → List (Str × V)
  | [] => [(f, v)]
  | (g, x) :: r => if g = f then (g, v) :: r else (g, x) :: putF f v r
theorem lookup_putF (f g : Str) (v : V) : ∀ fs : List (Str × V), (putF f v fs).lookup g = if g = f then some v else fs.lookup g
  | [] => by
    show List.lookup g [(f, v)] = _
    by_cases h : g = f
    · have hb : (g == f) = true := beq_iff_eq.mpr h
      simp only [List.lookup, hb, if_pos h]
    · have hb : (g == f) = false := beq_eq_false_iff_ne.mpr h
      simp only [List.lookup, hb, if_neg h]
  | (k, x) :: r => by
    have ih := lookup_putF f g v r
    rw [show putF f v ((k, x) :: r) = (if k = f then (k, v) :: r else (k, x) :: putF f v r) from rfl]
    by_cases hk : k = f
    · rw [if_pos hk]
      by_cases h : g = k
      · have hb : (g == k) = true := beq_iff_eq.mpr h
        simp only [List.lookup, hb, if_pos (h.trans hk)]
      · have hb : (g == k) = false := beq_eq_false_iff_ne.mpr h
        simp only [List.lookup, hb, if_neg (fun e : g = f => h (e.trans hk.symm))]
    · rw [if_neg hk]
      by_cases h : g = k
      · have hb : (g == k) = true := beq_iff_eq.mpr h
        simp only [List.lookup, hb, if_neg (fun e : g = f => hk (h.symm.trans e))]
      · have hb : (g == k) = false := beq_eq_false_iff_ne.mpr h
        simp only [List.lookup, hb]
        exact ih
theorem keys_putF (f : Str) (v : V) : ∀ fs : List (Str × V), f ∈ (putF f v fs).map (·.1) ∧ ∀ g, g ∈ fs.map (·.1) → g ∈ (putF f v fs).map (·.1)
  | [] => ⟨by simp [putF], fun g h => by simp at h⟩
  | (k, x) :: r => by
    obtain ⟨i1, i2⟩ := keys_putF f v r
    rw [show putF f v ((k, x) :: r) = (if k = f then (k, v) :: r else (k, x) :: putF f v r) from rfl]
    by_cases hk : k = f
    · rw [if_pos hk]
      subst hk
      exact ⟨by simp, fun g h => by simpa using h⟩
    · rw [if_neg hk]
      refine ⟨?_, fun g h => ?_⟩
      · rw [List.map_cons]
        exact List.mem_cons_of_mem _ i1
      · rw [List.map_cons] at h ⊢
        rcases List.mem_cons.mp h with e | e
        · exact List.mem_cons.mpr (.inl e)
        · exact List.mem_cons_of_mem _ (i2 g e)
theorem length_putF (f : Str) (v : V) : ∀ fs : List (Str × V), (putF f v fs).length ≤ fs.length + 1
  | [] => by simp [putF]
  | (k, x) :: r => by
    have ih := length_putF f v r
    rw [show putF f v ((k, x) :: r) = (if k = f then (k, v) :: r else (k, x) :: putF f v r) from rfl]
    by_cases hk : k = f
    · rw [if_pos hk, List.length_cons, List.length_cons]; omega
    · rw [if_neg hk, List.length_cons, List.length_cons]; omega
theorem RelO.some_of {v : V} {o : Option Value} (r : RelO (some v) o) : ∃ u, o = some u ∧ RelV v u := by
  cases o with
  | none => exact (show False from r).elim
  | some u => exact ⟨u, rfl, r⟩
theorem RelO.none_of {o : Option Value} (r : RelO none o) : o = none := by
  cases o with
  | none => rfl
  | some u => exact (show False from r).elim
theorem handed_of {v : V} {u : Value} (r : RelV v u) : PySem.W.handedIn u = true := by
  cases v with
  | non => cases (show u = Value.none from r); rfl
  | bl b => cases (show u = Value.bool b from r); rfl
  | int i => obtain ⟨t, e⟩ := (show ∃ t, u = Value.int i t from r); cases e; rfl
  | str x => obtain ⟨t, e⟩ := (show ∃ t, u = Value.str x t from r); cases e; rfl
  | byt b => obtain ⟨t, e⟩ := (show ∃ t, u = Value.bytes b t from r); cases e; rfl
  | flt b => obtain ⟨t, e⟩ := (show ∃ t, u = Value.float b t from r); cases e; rfl
  | ref a => cases (show u = Value.ref a from r); rfl
  | ty n => cases (show u = Value.type n from r); rfl
section
variable {P : Program} {w : World} {H H' : Hp} {h h' : Heap} {a C dx : Addr} {fs fs' : List (Str × V)}
theorem ins_get (hok : HOk P w H h) (e : H a = some (.ins C dx fs)) : ∃ mA, ObjM h a dx C mA ∧ (∀ f, RelO (fs.lookup f) (mA f)) ∧ PySem.Within mA (fs.map (·.1)) ∧ fs.length ≤ 1000 ∧ H dx = some (.own a) := by
  obtain ⟨d, z, ne, ob, mA, n, r, q⟩ := (show ObjOk P w H h a (.ins C dx fs) from hok a _ e)
  exact ⟨mA, ⟨ob, n, ne⟩, r, q, z, d⟩
end
structure Cls (K : PySem.W.Frag) (C : Addr) : Prop where
  pg : PySem.W.plainGet K C Str.empty = true
  hd : PySem.W.hasDictIn K C = true
  po : PySem.W.plainOver K C = true
  sa : PySem.W.findIn K (.ref C) "__setattr__" = some (some (.builtin "object.__setattr__"))
theorem Cls.get {K : PySem.W.Frag} {C : Addr} (c : Cls K C) (f : Str) : PySem.W.plainGet K C f = true := c.pg
noncomputable def NoAttr (K : PySem.W.Frag) (C : Addr) (f : Str) : Prop := PySem.W.findIn K (.ref C) f = some none
theorem NoAttr.taker {K : PySem.W.Frag} {C : Addr} {f : Str} (n : NoAttr K C f) : PySem.W.takerIn K C f = some none := by
  unfold PySem.W.takerIn
  rw [show PySem.W.findIn K (.ref C) f = some none from n]
  rfl
structure Meth (K : PySem.W.Frag) (C : Addr) (m : Str) (f : Addr) : Prop where
  at_ : PySem.W.findIn K (.ref C) m = some (some (.ref f))
  fn : PySem.W.isFn K (.ref f) = true
  kp : PySem.W.keepIn K (.ref f) = true
section
variable {X : Cx} {pins : List (Addr × Obj)} {σ : St} {H : Hp} {s : Shared} {a C dx : Addr} {fs : List (Str × V)} {f : Str} {v : V} {A : Around} {E : Value → Shared → Prop}
theorem getattr_ok {b : Bool} {Q : Value → Shared → Prop} (I : Inv X pins σ H s) (e : H a = some (.ins C dx fs)) (c : Cls X.K C) (n : NoAttr X.K C f) (l : fs.lookup f = some v)
    (h : ∀ u s', Inv X pins σ H s' → RelV v u → Q u s') : wpAny (model X.prog X.w) A (getAttr (.ref a) f b) Q E s := by
  obtain ⟨mA, O, r, _, _, _⟩ := ins_get I.hok e
  obtain ⟨u, hu, ru⟩ := RelO.some_of (v := v) (o := mA f) (by rw [← l]; exact r f)
  exact get_map I.kIn O (c.get f) c.hd n hu (handed_of ru) (h u _ (I.tok _) ru)
theorem getmeth_ok {m : Str} {g : Addr} {pl : Sem Bool} {Q : Value × List Value → Shared → Prop} (I : Inv X pins σ H s) (e : H a = some (.ins C dx fs)) (c : Cls X.K C) (k : Meth X.K C m g) (l : fs.lookup m = none)
    (h : Q (.ref g, [.ref a]) s) : wpAny (model X.prog X.w) A (getMethod (.ref a) m pl) Q E s := by
  obtain ⟨mA, O, r, _, _, _⟩ := ins_get I.hok e
  have hn : mA m = none := RelO.none_of (by rw [← l]; exact r m)
  exact get_meth I.kIn O (c.get m) k.at_ k.fn hn h
theorem setattr_ok {y : V} {u : Value} {Q : Unit → Shared → Prop} (I : Inv X pins σ H s) (e : H a = some (.ins C dx fs)) (c : Cls X.K C) (n : NoAttr X.K C f) (hl : fs.length < 1000) (ry : RelV y u)
    (h : ∀ s', Inv X pins σ (upd H a (.ins C dx (putF f y fs))) s' → Q () s') : wpAny (model X.prog X.w) A (setAttr (.ref a) f u) Q E s := by
  obtain ⟨mA, O, r, wi, _, ho⟩ := ins_get I.hok e
  have hz : (fs.map (·.1)).length ≤ sizeLine := by rw [List.length_map, sizeLine_eq]; omega
  refine set_map I.kIn O c.sa c.po n.taker c.hd wi hz fun h' O' sb => h _ ?_
  have hd : ∃ o, h'.get? dx = some o := let ⟨o, _, _, e', _⟩ := O'.ns; ⟨o, e'⟩
  refine I.write (x := a) (e := dx) (by rw [e]; exact True.intro) (.inr ho) (fun b q hb z => (sb.2 b hb).trans z) hd ?_
  refine ⟨by rw [upd_ne O.ne]; exact ho, ?_, O.ne, O'.obj, _, O'.ns, fun g => ?_, fun g hg => ?_⟩
  · have := length_putF f y fs; omega
  · show RelO ((putF f y fs).lookup g) (if g = f then some u else mA g)
    rw [lookup_putF]
    by_cases q : g = f
    · rw [if_pos q, if_pos q]; exact ry
    · rw [if_neg q, if_neg q]; exact r g
  · by_cases q : g = f
    · rw [q]; exact (keys_putF f y fs).1
    · refine (keys_putF f y fs).2 g (wi g fun z => hg ?_)
      show (if g = f then some u else mA g) = none
      rw [if_neg q]; exact z
theorem Inv.made (I : Inv X pins σ H s) : Inv X pins σ (upd (upd H s.heap.objs.size (.own (s.heap.objs.size + 1))) (s.heap.objs.size + 1) (.ins C s.heap.objs.size []))
    { s with heap := (s.heap.push PySem.W.emptyDict).push (PySem.W.instObj C s.heap.objs.size) } := by
  have e1 : (s.heap.push PySem.W.emptyDict).get? s.heap.objs.size = some PySem.W.emptyDict := Heap.get?_push_size s.heap rfl
  have e2 : ((s.heap.push PySem.W.emptyDict).push (PySem.W.instObj C s.heap.objs.size)).get? (s.heap.objs.size + 1) = some (PySem.W.instObj C s.heap.objs.size) := by
    have := Heap.get?_push_size (s.heap.push PySem.W.emptyDict) (o := PySem.W.instObj C s.heap.objs.size) rfl
    rwa [Heap.size_push] at this
  have e3 : (s.heap.push PySem.W.emptyDict).Ns s.heap.objs.size (fun _ => none) := ⟨PySem.W.emptyDict, #[], _, e1, rfl, (fun e he => absurd he (by simp)), fun _ => rfl⟩
  have I1 := I.laid (a := s.heap.objs.size) (o := .own (s.heap.objs.size + 1)) (h' := s.heap.push PySem.W.emptyDict) (t' := s.toks) (fun b u q => Heap.get?_push_of_some _ q) (Nat.le_refl _) ⟨_, e1⟩
  refine I1.laid (a := s.heap.objs.size + 1) (o := .ins C s.heap.objs.size []) (t' := s.toks) (fun b u q => Heap.get?_push_of_some _ q) (Nat.le_of_eq (Heap.size_push _ _)) ?_
  have ne : s.heap.objs.size ≠ s.heap.objs.size + 1 := Nat.ne_of_lt (Nat.lt_succ_self _)
  refine ⟨by rw [upd_ne ne, upd_same], Nat.zero_le _, ne, e2, fun _ => none, (Heap.Ns1.of_empty e3).at fun o q => Heap.get?_push_of_some _ q, fun _ => True.intro, fun y hy => absurd rfl hy⟩
theorem attr_of {prog : Program} {w : World} {env : Env} {e : Expr} {f : Str} {pos : Pos} {s : Shared} {Q : Value → Shared → Prop} (hb : attributeBase e f env (eval e env) = eval e env)
    (h : wpAny (model prog w) A (eval e env) (fun o s₁ => wpAny (model prog w) A (getAttr o f true) Q E s₁) E s) : wpAny (model prog w) A (eval (.Attribute e f pos) env) Q E s :=
  Attribute_any_ h (by rw [arm_eval_Attribute, hb])
end
noncomputable def tFld (K : PySem.W.Frag) (ta : TE) (f : Str) : TE := fun σ H Q => ta σ H fun x H1 => ∃ a C dx fs v, x = .ref a ∧ H1 a = some (.ins C dx fs) ∧ Cls K C ∧ NoAttr K C f ∧ fs.lookup f = some v ∧ Q v H1
noncomputable def sFld (K : PySem.W.Frag) (ta tv : TE) (f : Str) : TS := fun D σ H => tv σ H fun y H1 => ta σ H1 fun x H2 => ∃ a C dx fs, x = .ref a ∧ H2 a = some (.ins C dx fs) ∧ Cls K C ∧ NoAttr K C f ∧ fs.length < 1000 ∧
  D.nx σ (upd H2 a (.ins C dx (putF f y fs)))
section
variable {X : Cx} {o e value : Expr} {f : Str} {pos pos' tpos : Pos} {ta tv : TE}
theorem pe_fld (he : PE X e ta) (hb : attributeBase e f X.env (eval e X.env) = eval e X.env) : PE X (.Attribute e f pos) (tFld X.K ta f) := by
  intro pins s σ H Q I h
  refine attr_of hb (thn (he pins s σ H _ I h) fun u s1 hz24 => ?_)
  obtain ⟨x, H1, I1, rx, a, C, dx, fs, v, ex, ea, c, n, l, q⟩ := hz24
  subst ex
  obtain rfl : u = Value.ref a := rx
  exact getattr_ok I1 ea c n l fun u' s2 I2 ru => ⟨v, H1, I2, ru, q⟩
theorem ps_fld (ha : PE X o ta) (hv : PE X value tv) (hs : swapsWith value (some (.Attribute o f pos')) pos.line X.env = pure false) : PS X (.Assign [.Attribute o f pos'] value pos) (sFld X.K ta tv f) := by
  intro pins s σ H D I h
  refine plainObj_wpAny_Assign_Attribute (thn (hv pins s σ H _ I h) fun u s1 hz25 => ?_) hs
  obtain ⟨y, H1, I1, ry, q⟩ := hz25
  refine thn (ha pins s1 σ H1 _ I1 q) fun ov s2 hz26 => ?_
  obtain ⟨x, H2, I2, rx, a, C, dx, fs, ex, ea, c, n, l, q2⟩ := hz26
  subst ex
  obtain rfl : ov = Value.ref a := rx
  exact setattr_ok I2 ea c n l ry fun s3 I3 => ⟨σ, _, I3, q2⟩
end
section
variable {X : Cx} {pins : List (Addr × Obj)} {σ : St} {H : Hp} {s : Shared} {A : Around} {E : Value → Shared → Prop} {Q : Value → Shared → Prop} {c : Value} {b : Bool}
inductive TyOf (K : PySem.W.Frag) (H : Hp) : V → Value → Prop where
  | non : TyOf K H .non (.type "NoneType")
  | bl (x : Bool) : TyOf K H (.bl x) (.type "bool")
  | int (i : Int) : TyOf K H (.int i) (.type "int")
  | str (x : Str) : TyOf K H (.str x) (.type "str")
  | flt (x : UInt64) : TyOf K H (.flt x) (.type "float")
  | lst {a : Addr} {xs : List V} (e : H a = some (.lst xs)) : TyOf K H (.ref a) (.type "list")
  | frz {a : Addr} {o : Obj} {xs : List V} (e : H a = some (.frz o (.lst xs))) : TyOf K H (.ref a) (.type "list")
  | tup {a : Addr} {xs : List V} (e : H a = some (.tup xs)) : TyOf K H (.ref a) (.type "tuple")
  | dK {a : Addr} {kvs : List (Key × V)} (e : H a = some (.dK kvs)) : TyOf K H (.ref a) (.type "dict")
  | dT {a : Addr} {kvs : List (List Key × V)} (e : H a = some (.dT kvs)) : TyOf K H (.ref a) (.type "dict")
  | ins {a C dx : Addr} {fs : List (Str × V)} (e : H a = some (.ins C dx fs)) (cl : Cls K C) (ha : PySem.W.findIn K (.ref C) "__class__" = some (some (.builtin "object.__class__")))
      (hn : PySem.W.specialIn K (.builtin "object.__class__") "__get__" = some (some (.builtin "getset_descriptor.__get__"))) (htk : PySem.W.takesIn K (.builtin "object.__class__") = some true)
      (hm : PySem.W.mroIn K C (.type "object") = some true) : TyOf K H (.ref a) (.ref C)
theorem isinst_ok {x : V} {u t : Value} (I : Inv X pins σ H s) (rx : RelV x u) (ty : TyOf X.K H x t) (e : PySem.W.kitOne X.K t c = some b) (h : ∀ tk, Q (.bool b) { s with toks := tk }) :
    wpAny (model X.prog X.w) A (call (.builtin "isinstance") [u, c]) Q E s := by
  cases ty with
  | non => cases (show u = Value.none from rx); exact PySem.W.kia_one PySem.W.kitx_none I.kIn True.intro e (fun z => nomatch z) h
  | bl y => cases (show u = Value.bool y from rx); exact PySem.W.kia_one PySem.W.kitx_bool I.kIn True.intro e (fun z => nomatch z) h
  | int i => obtain ⟨t, q⟩ := (show ∃ t, u = Value.int i t from rx); cases q; exact PySem.W.kia_one PySem.W.kitx_int I.kIn True.intro e (fun z => nomatch z) h
  | str y => obtain ⟨t, q⟩ := (show ∃ t, u = Value.str y t from rx); cases q; exact PySem.W.kia_one PySem.W.kitx_str I.kIn True.intro e (fun z => nomatch z) h
  | flt y => obtain ⟨t, q⟩ := (show ∃ t, u = Value.float y t from rx); cases q; exact PySem.W.kia_one PySem.W.kitx_float I.kIn True.intro e (fun z => nomatch z) h
  | @lst a xs ea =>
    cases (show u = Value.ref a from rx)
    obtain ⟨_, _, n, _, h1⟩ := (show ObjOk X.prog X.w H s.heap a (.lst xs) from I.hok a _ ea)
    exact PySem.W.kia_one PySem.W.kitx_list I.kIn ⟨_, h1, rfl⟩ e (fun z => nomatch z) h
  | @frz a ob xs ea =>
    cases (show u = Value.ref a from rx)
    obtain ⟨_, _, _, n, _, h1⟩ := (show ObjOk X.prog X.w H s.heap a (.frz ob (.lst xs)) from I.hok a _ ea)
    exact PySem.W.kia_one PySem.W.kitx_list I.kIn ⟨_, h1, rfl⟩ e (fun z => nomatch z) h
  | @tup a xs ea =>
    cases (show u = Value.ref a from rx)
    obtain ⟨_, _, _, p⟩ := (show ObjOk X.prog X.w H s.heap a (.tup xs) from I.hok a _ ea)
    obtain ⟨o, h1, h2, _⟩ := p
    exact PySem.W.kia_one PySem.W.kitx_tuple I.kIn ⟨o, h1, h2⟩ e (fun z => nomatch z) h
  | @dK a kvs ea =>
    cases (show u = Value.ref a from rx)
    obtain ⟨_, _, vs, _, p⟩ := (show ObjOk X.prog X.w H s.heap a (.dK kvs) from I.hok a _ ea)
    obtain ⟨o, es, ep, h1, h2, _⟩ := p
    exact PySem.W.kia_one PySem.W.kitx_dict I.kIn ⟨o, h1, h2.1⟩ e (fun z => nomatch z) h
  | @dT a kvs ea =>
    cases (show u = Value.ref a from rx)
    obtain ⟨_, _, xs, _, o, es, ep, h1, h2, _⟩ := (show ObjOk X.prog X.w H s.heap a (.dT kvs) from I.hok a _ ea)
    exact PySem.W.kia_one PySem.W.kitx_dict I.kIn ⟨o, h1, h2.1⟩ e (fun z => nomatch z) h
  | @ins a C dx fs ea cl ha hn htk hm =>
    cases (show u = Value.ref a from rx)
    obtain ⟨mA, O, _⟩ := ins_get I.hok ea
    obtain ⟨od, J, _⟩ := O.look
    exact PySem.W.kia_one (PySem.W.kitx_own (cl.get _) cl.hd ha hn htk hm) I.kIn J e (fun z => nomatch z) h
end
end L2
namespace L2
open PySem PySem.Spec PyProof.Rows
structure Room (k : Nat) (A : Around) : Prop where
  hd : A.handled = none
  dp : A.depth + 3 * k + 5 < recursionLimit
  un : A.units + 16 * k + 200 < cLine
theorem Room.mono {j k : Nat} {A : Around} (r : Room k A) (h : j ≤ k) : Room j A := ⟨r.hd, by have := r.dp; omega, by have := r.un; omega⟩
theorem Room.deeper {k : Nat} {A : Around} (r : Room (k + 1) A) (env : Env) : Room k (A.deeper env) :=
  ⟨r.hd, by have := r.dp; show A.depth + 1 + 3 * k + 5 < _; omega, by have := r.un; show A.units + 3 + 16 * k + 200 < _; omega⟩
theorem make_depth {A : Around} {C : Addr} {us : List Value} {kw : List (Str × Value)} : (A.under (.builtin "type.__call__" ⟨.ref C :: us, kw⟩)).depth = A.depth + 1 := by
  first | rfl | simp [Around.under, Code.weight, Code.isCreation, Code.isGuard, Code.isCaller, Code.frames, Code.isFrame, guardIds]
theorem make_units {A : Around} {C : Addr} {us : List Value} {kw : List (Str × Value)} : (A.under (.builtin "type.__call__" ⟨.ref C :: us, kw⟩)).units = A.units + 1 := by
  first | rfl | simp [Around.under, Code.cUnits, Code.frames, Code.isFrame]
theorem Room.make {k : Nat} {A : Around} (r : Room (k + 1) A) (C : Addr) (us : List Value) (kw : List (Str × Value)) : Room k (A.under (.builtin "type.__call__" ⟨.ref C :: us, kw⟩)) :=
  ⟨r.hd, by have := r.dp; rw [make_depth]; omega, by have := r.un; rw [make_units]; omega⟩
theorem Room.depth {k : Nat} {A : Around} (r : Room k A) : A.depth < recursionLimit := by have := r.dp; omega
theorem Room.units {k : Nat} {A : Around} (r : Room k A) : A.units + 64 < cLine := by have := r.un; omega
noncomputable def tNil : TA := fun _ H Q => Q [] H
noncomputable def tCons (ta : TE) (tr : TA) : TA := fun σ H Q => ta σ H fun x H1 => tr σ H1 fun xs H2 => Q (x :: xs) H2
section
variable {X : Cx} {e : Expr} {es : List Expr} {te : TE} {t : TA} {pos : Pos}
theorem pa_nil : PA X [] tNil := fun _ _ _ _ H Q I h => Calls.spliced_nil ⟨[], H, I, .nil, h⟩
theorem pa_cons (ha : PE X e te) (hr : PA X es t) (hs : starEach (e :: es) X.env = (false, eval e X.env) :: starEach es X.env := by rfl) : PA X (e :: es) (tCons te t) := by
  intro pos pins s σ H Q I h
  rw [hs]
  show wpAny _ _ (spliced ((false, eval e X.env) :: backTo pos (starEach es X.env))) _ _ s
  refine Calls.spliced_cons (thn (ha pins s σ H _ I h) fun u s1 hz27 => ?_)
  obtain ⟨x, H1, I1, r1, q1⟩ := hz27
  exact thn (hr pos pins s1 σ H1 _ I1 q1) fun us s2 ⟨xs, H2, I2, r2, q2⟩ => ⟨x :: xs, H2, I2, .cons r1 r2, q2⟩
noncomputable def tTup (t : TA) : TE := fun σ H Q => t σ H fun xs H1 => xs.length ≤ sizeLine ∧ ∀ p, H1 p = none → Q (.ref p) (upd H1 p (.tup xs))
noncomputable def tLst (t : TA) : TE := fun σ H Q => t σ H fun xs H1 => xs.length ≤ sizeLine ∧ ∀ p, H1 p = none → Q (.ref p) (upd H1 p (.lst xs))
theorem pe_tup {x1} (h : PA X es t) : PE X (.Tuple es x1 pos) (tTup t) := by
  intro pins s σ H Q I hq
  refine wpAny_Tuple_spliced (thn (h pos pins s σ H _ I hq) fun us s1 hz28 => ?_)
  obtain ⟨xs, H1, I1, r, z, q⟩ := hz28
  refine ⟨by rw [← r.length]; exact z, ?_⟩
  have hf : H1 s1.heap.objs.size = none := I1.hok.fresh (Nat.le_refl _)
  refine ⟨.ref s1.heap.objs.size, upd H1 s1.heap.objs.size (.tup xs), I1.laid (t' := s1.toks) (fun b u e => Heap.get?_push_of_some _ e) (Nat.le_refl _) ?_, rfl, q _ hf⟩
  exact ⟨z, us, r, ⟨_, Heap.get?_push_size _ rfl, rfl, _, rfl⟩⟩
theorem pe_lst (h : PA X es t) : PE X (.List es pos) (tLst t) := by
  intro pins s σ H Q I hq
  refine wpAny_List_spliced (thn (h pos pins s σ H _ I hq) fun us s1 hz29 => ?_)
  obtain ⟨xs, H1, I1, r, z, q⟩ := hz29
  refine ⟨by rw [← r.length]; exact z, ?_⟩
  have hf : H1 s1.heap.objs.size = none := I1.hok.fresh (Nat.le_refl _)
  refine ⟨.ref s1.heap.objs.size, upd H1 s1.heap.objs.size (.lst xs), I1.laid (t' := s1.toks) (fun b u e => Heap.get?_push_of_some _ e) (Nat.le_refl _) ?_, rfl, q _ hf⟩
  exact ⟨z, us, 0, r, Heap.get?_push_size _ rfl⟩
end
noncomputable abbrev Sp := List V → Hp → VK → XK → Prop
noncomputable abbrev CXT := List Env → Hp → Shared → XK → Value → Shared → Prop
structure Env0 (P : Program) (w : World) (K : PySem.W.Frag) (mg : Str → Option Value) (base : Heap) (A : Around) (outer : List Env) (s : Shared) (H : Hp) : Prop where
  frames : A.frames = some outer
  mod : Mod K mg base
  bs : ∀ b o, base.get? b = some o → s.heap.get? b = some o ∧ H b = none
  bsz : base.objs.size ≤ s.heap.objs.size
  funs : s.heap.FunFrames base outer
  frf : ∀ b ∈ frs outer, H b = none
  hok : HOk P w H s.heap
  bare : AllBare s.gens
noncomputable def CE (outer : List Env) (P : Program) (w : World) (H : Hp) (s : Shared) (Q : VK) (u : Value) (s' : Shared) : Prop :=
  ∃ v H', s'.os = s.os ∧ AllBare s'.gens ∧ Un (frs outer) [] H H' s.heap s'.heap ∧ HOk P w H' s'.heap ∧ RelV v u ∧ Q v H'
noncomputable def CR (CX : CXT) (outer : List Env) (P : Program) (w : World) (H : Hp) (s : Shared) (Q : VK) (E : XK) (r : Result) (s' : Shared) : Prop :=
  match r with
  | .ok (.ret u) => CE outer P w H s Q u s'
  | .ok _ => False
  | .error e => CX outer H s E e s'
structure FnOk (P : Program) (w : World) (K : PySem.W.Frag) (mg : Str → Option Value) (base : Heap) (CX : CXT) (k : Nat) (f : Addr) (fd : FuncData) (ps : List Str) (sp : Sp) : Prop where
  len : ∀ vs H Q E, sp vs H Q E → vs.length = ps.length
  run : ∀ (A : Around) (outer : List Env) (s : Shared) (H : Hp) (args : Args) (us : List Value) (vs : List V) (Q : VK) (E : XK), Room k A → Env0 P w K mg base A outer s H → BindsTo s fd args (ps.zip us) → Vals vs us → sp vs H Q E →
    codeAny (model P w) A (.call (.ref f) args) (CR CX outer P w H s Q E) s
theorem Env0.make {P : Program} {w : World} {K : PySem.W.Frag} {mg : Str → Option Value} {base : Heap} {A : Around} {outer : List Env} {s : Shared} {H : Hp} (e : Env0 P w K mg base A outer s H) (C : Addr) (us : List Value) (kw : List (Str × Value)) :
    Env0 P w K mg base (A.under (.builtin "type.__call__" ⟨.ref C :: us, kw⟩)) outer s H := ⟨by first | exact e.frames | (simpa [Around.under, Code.envs, Code.isFrame, pushEnvs] using e.frames), e.mod, e.bs, e.bsz, e.funs, e.frf, e.hok, e.bare⟩
section
variable {X : Cx} {pins : List (Addr × Obj)} {σ : St} {H : Hp} {s s' : Shared}
theorem Inv.env0 (I : Inv X pins σ H s) : Env0 X.prog X.w X.K X.mg X.base X.A X.stack s H :=
  ⟨I.ok.frames, I.ok.mod, I.bs, Nat.le_trans I.ok.bsz I.sz, I.stack, I.stkFree, I.hok, I.bare⟩
theorem Inv.after {Q : VK} {u : Value} (I : Inv X pins σ H s) (h : CE X.stack X.prog X.w H s Q u s') : EP X pins σ Q u s' := by
  obtain ⟨v, H', os, bare, un, hok, r, q⟩ := h
  obtain ⟨hh, g, d, t, os'⟩ := s'
  obtain rfl : os' = s.os := os
  exact ⟨v, H', I.call (h' := hh) (g' := g) (d' := d) (t' := t) (ch := []) un hok bare (fun b z => absurd z (by simp)), r, q⟩
end
noncomputable def tCall (sp : Sp) (dvs : List V) (E : XK) (t : TA) : TE := fun σ H Q => t σ H fun vs H1 => sp (vs ++ dvs) H1 Q E
noncomputable def tMeth (C : Addr) (m : Str) (sp : Sp) (dvs : List V) (E : XK) (ta : TE) (t : TA) : TE := fun σ H Q => ta σ H fun x H1 => ∃ a dx fs, x = .ref a ∧ H1 a = some (.ins C dx fs) ∧ fs.lookup m = none ∧
  t σ H1 fun vs H2 => sp (x :: (vs ++ dvs)) H2 Q E
noncomputable def tMake (C : Addr) (sp : Sp) (dvs : List V) (E : XK) (t : TA) : TE := fun σ H Q => t σ H fun vs H1 => ∀ x dx, H1 x = none → H1 dx = none → dx ≠ x →
  sp (.ref x :: (vs ++ dvs)) (upd (upd H1 dx (.own x)) x (.ins C dx [])) (fun v H2 => v = .non ∧ Q (.ref x) H2) E
noncomputable def Binds (K : PySem.W.Frag) (fd : FuncData) (ps : List Str) (ds : List Value) : Prop :=
  ∀ (s : Shared) (us : List Value), K.In s.heap → (us ++ ds).length = ps.length → BindsTo s fd ⟨us, []⟩ (ps.zip (us ++ ds))
theorem Binds.all {K : PySem.W.Frag} {fd : FuncData} {ps : List Str} (h : ∀ us : List Value, us.length = ps.length → bindArgs fd ⟨us, []⟩ = pure (ps.zip us)) : Binds K fd ps [] := fun s us _ hl => by
  rw [List.append_nil] at hl ⊢
  exact .of_eq (h us hl)
noncomputable def Passes (CX : CXT) (X : Cx) (E : XK) : Prop := ∀ (pins : List (Addr × Obj)) (σ : St) (H : Hp) (s : Shared) (e : Value) (s' : Shared), Inv X pins σ H s → CX X.stack H s E e s' → X.xe e s'
section
variable {X : Cx} {CX : CXT} {k : Nat} {f C : Addr} {fd : FuncData} {ps : List Str} {sp : Sp} {dvs : List V} {ds : List Value} {E : XK} {x m : Str} {p pos apos : Pos} {e o : Expr} {es : List Expr} {ta : TE} {t : TA}
theorem run_fn {pins : List (Addr × Obj)} {σ : St} {H : Hp} {s : Shared} {Q : VK} {us : List Value} {vs : List V} (F : FnOk X.prog X.w X.K X.mg X.base CX k f fd ps sp) (hr : Room k X.A) (hb : Binds X.K fd ps ds) (hd : Vals dvs ds) (hx : Passes CX X E)
    (I : Inv X pins σ H s) (r : Vals vs us) (h : sp (vs ++ dvs) H Q E) : wpAny (model X.prog X.w) X.A (call (.ref f) us) (EP X pins σ Q) X.xe s := by
  have r2 : Vals (vs ++ dvs) (us ++ ds) := r.append hd
  have hl : (us ++ ds).length = ps.length := by rw [← r2.length]; exact F.len _ _ _ _ h
  refine wpAny_call (codeAny_mono (F.run X.A X.stack s H ⟨us, []⟩ (us ++ ds) (vs ++ dvs) Q E hr I.env0 (hb s us I.kIn hl) r2 h) fun r s' hq => ?_)
  cases r with
  | error e => exact hx pins σ H s e s' I hq
  | ok fl =>
    cases fl with
    | ret u => exact I.after hq
    | next => exact False.elim hq
    | brk => exact False.elim hq
    | cont => exact False.elim hq
theorem pe_call (F : FnOk X.prog X.w X.K X.mg X.base CX k f fd ps sp) (hr : Room k X.A) (hg : Gl X x) (hm : X.mg x = some (.ref f)) (hk : PySem.W.keepIn X.K (.ref f) = true) (hb : Binds X.K fd ps ds) (hd : Vals dvs ds) (hx : Passes CX X E)
    (ha : PA X (e :: es) t) (hdb : (x == ("__debug__" : Str)) = false := by decide) (he : starEach (e :: es) X.env = (false, eval e X.env) :: starEach es X.env := by rfl) (hpl : (backTo pos (starEach es X.env)).any (·.1) = false := by rfl) :
    PE X (.Call (.Name x p) (e :: es) [] pos) (tCall sp dvs E t) := by
  intro pins s σ H Q I h
  refine wpAny_Call_Name_kw (ld_glob I hg hm ?_ hdb)
  refine PySem.W.callWith_K (h₀ := X.base) I.ok.mod.kin hk (thn (ha pos pins s σ H _ I h) fun us s1 hz30 => ?_) he hpl
  obtain ⟨vs, H1, I1, r, q⟩ := hz30
  refine ⟨I1.kIn, ?_⟩
  exact run_fn F hr hb hd hx I1 r q
theorem pe_meth {pl : Sem Bool} (he : PE X o ta) (c : Cls X.K C) (hm : Meth X.K C m f) (F : FnOk X.prog X.w X.K X.mg X.base CX k f fd ps sp) (hr : Room k X.A) (hb : Binds X.K fd ps ds) (hd : Vals dvs ds) (hx : Passes CX X E) (ha : PA X (e :: es) t)
    (hst : starEach (e :: es) X.env = (false, eval e X.env) :: starEach es X.env := by rfl) (hpl : (backTo pos (starEach es X.env)).any (·.1) = false := by rfl)
    (ht : eval (.Call (.Attribute o m apos) (e :: es) [] pos) X.env = (do
      let ov ← eval o X.env
      standAt apos.atName
      let (f, first) ← holding [ov] (getMethod ov m pl)
      callWith pos f first (backTo pos (starEach (e :: es) X.env)) (backToKw pos (keywordEach [] X.env))) := by rfl) :
    PE X (.Call (.Attribute o m apos) (e :: es) [] pos) (tMeth C m sp dvs E ta t) := by
  intro pins s σ H Q I h
  refine PySem.W.methodCall_KW (pl := pl) (thn (he pins s σ H _ I h) fun u s1 hz31 => ?_) ht
  obtain ⟨x, H1, I1, rx, a, dx, fs, ex, ea, l, q⟩ := hz31
  subst ex
  obtain rfl : u = Value.ref a := rx
  refine getmeth_ok I1 ea c hm l ?_
  refine PySem.W.callWith_K (first := [.ref a]) (h₀ := X.base) I.ok.mod.kin hm.kp (thn (ha pos pins s1 σ H1 _ I1 q) fun us s2 hz32 => ?_) hst hpl
  obtain ⟨vs, H2, I2, r, q2⟩ := hz32
  refine ⟨I2.kIn, ?_⟩
  exact run_fn (us := .ref a :: us) (vs := .ref a :: vs) F hr hb hd hx I2 (.cons rfl r) q2
theorem pe_meth0 {pl : Sem Bool} (he : PE X o ta) (c : Cls X.K C) (hm : Meth X.K C m f) (F : FnOk X.prog X.w X.K X.mg X.base CX k f fd ps sp) (hr : Room k X.A) (hb : Binds X.K fd ps ds) (hd : Vals dvs ds) (hx : Passes CX X E)
    (ht : eval (.Call (.Attribute o m apos) [] [] pos) X.env = (do
      let ov ← eval o X.env
      standAt apos.atName
      let (f, first) ← holding [ov] (getMethod ov m pl)
      callWith pos f first (backTo pos (starEach [] X.env)) (backToKw pos (keywordEach [] X.env))) := by rfl) :
    PE X (.Call (.Attribute o m apos) [] [] pos) (tMeth C m sp dvs E ta tNil) := by
  intro pins s σ H Q I h
  refine PySem.W.methodCall_KW (pl := pl) (thn (he pins s σ H _ I h) fun u s1 hz33 => ?_) ht
  obtain ⟨x, H1, I1, rx, a, dx, fs, ex, ea, l, q⟩ := hz33
  subst ex
  obtain rfl : u = Value.ref a := rx
  refine getmeth_ok I1 ea c hm l ?_
  exact PySem.W.callWith_K0 (first := [.ref a]) I1.kIn hm.kp (run_fn (us := [.ref a]) (vs := [.ref a]) F hr hb hd hx I1 (.cons rfl .nil) q)
structure Mk (K : PySem.W.Frag) (C f : Addr) : Prop where
  makes : PySem.W.makesIn K C = true
  init : PySem.W.findIn K (.ref C) "__init__" = some (some (.ref f))
  fn : PySem.W.isFn K (.ref f) = true
  kp : PySem.W.keepIn K (.ref C) = true
theorem run_make {pins : List (Addr × Obj)} {σ : St} {H : Hp} {s : Shared} {Q : VK} {us : List Value} {vs : List V} (M : Mk X.K C f) (F : FnOk X.prog X.w X.K X.mg X.base CX k f fd ps sp) (hr : Room (k + 1) X.A) (hb : Binds X.K fd ps ds) (hd : Vals dvs ds)
    (hx : Passes CX X E) (I : Inv X pins σ H s) (r : Vals vs us)
    (h : ∀ x dx, H x = none → H dx = none → dx ≠ x → sp (.ref x :: (vs ++ dvs)) (upd (upd H dx (.own x)) x (.ins C dx [])) (fun v H2 => v = .non ∧ Q (.ref x) H2) E) :
    wpAny (model X.prog X.w) X.A (call (.ref C) us) (EP X pins σ Q) X.xe s := by
  have hq := h (s.heap.objs.size + 1) s.heap.objs.size (I.hok.fresh (Nat.le_succ _)) (I.hok.fresh (Nat.le_refl _)) (Nat.ne_of_lt (Nat.lt_succ_self _))
  have I2 := Inv.made (C := C) I
  have r2 : Vals (V.ref (s.heap.objs.size + 1) :: (vs ++ dvs)) (Value.ref (s.heap.objs.size + 1) :: (us ++ ds)) := .cons rfl (r.append hd)
  have hl : (Value.ref (s.heap.objs.size + 1) :: us ++ ds).length = ps.length := by
    have e := r2.length
    rw [F.len _ _ _ _ hq] at e
    exact e.symm
  refine wpAny_call (make_map (f := f) I.kIn M.makes M.init (beq_iff_eq.mp M.fn) (codeAny_mono (F.run _ X.stack _ _ ⟨Value.ref (s.heap.objs.size + 1) :: us, []⟩ (Value.ref (s.heap.objs.size + 1) :: (us ++ ds)) _ _ E (hr.make C us [])
    (I2.env0.make C us []) (hb _ (Value.ref (s.heap.objs.size + 1) :: us) I2.kIn hl) r2 hq) fun r s' hq' => ?_))
  cases r with
  | error e => exact hx pins σ _ _ e s' I2 hq'
  | ok fl =>
    cases fl with
    | ret u =>
      obtain ⟨v, H', I3, rv, ev, q3⟩ := I2.after hq'
      subst ev
      exact ⟨rv, ⟨V.ref (s.heap.objs.size + 1), H', I3, rfl, q3⟩⟩
    | next => exact False.elim hq'
    | brk => exact False.elim hq'
    | cont => exact False.elim hq'
theorem pe_make (M : Mk X.K C f) (F : FnOk X.prog X.w X.K X.mg X.base CX k f fd ps sp) (hr : Room (k + 1) X.A) (hg : Gl X x) (hm : X.mg x = some (.ref C)) (hb : Binds X.K fd ps ds) (hd : Vals dvs ds) (hx : Passes CX X E)
    (ha : PA X (e :: es) t) (hdb : (x == ("__debug__" : Str)) = false := by decide) (he : starEach (e :: es) X.env = (false, eval e X.env) :: starEach es X.env := by rfl) (hpl : (backTo pos (starEach es X.env)).any (·.1) = false := by rfl) :
    PE X (.Call (.Name x p) (e :: es) [] pos) (tMake C sp dvs E t) := by
  intro pins s σ H Q I h
  refine wpAny_Call_Name_kw (ld_glob I hg hm ?_ hdb)
  refine PySem.W.callWith_K (h₀ := X.base) I.ok.mod.kin M.kp (thn (ha pos pins s σ H _ I h) fun us s1 hz34 => ?_) he hpl
  obtain ⟨vs, H1, I1, r, q⟩ := hz34
  refine ⟨I1.kIn, ?_⟩
  exact run_make M F hr hb hd hx I1 r q
end
section
variable {X : Cx} {CX : CXT} {k : Nat} {f C : Addr} {fd : FuncData} {ps ks : List Str} {sp : Sp} {E : XK} {x m : Str} {p pos apos kpos : Pos} {e o : Expr} {es : List Expr} {kws : List Keyword} {te ta : TE} {t tk : TA} {nm : Option Str}
variable {g : List Value → List Value → List Value} {gV : List V → List V → List V}
end
structure FnScope (N P : List Str) (sc : Scope) : Prop where
  kind : sc.kind = .function
  co : sc.isCoroutine = false
  gen : sc.isGenerator = false
  nd : N.Nodup
  pre : N.take P.length = P
  par : ∀ x ∈ P, sc.names.lookup x = some .local ∨ sc.names.lookup x = some .cell
  nofree : ∀ y ∈ sc.names, y.2 ≠ .free
theorem bindL_out {kindOf : Str → Option NameKind} {x : Str} : ∀ {binds : List (Str × Value)} {m : Str → Option Value}, (∀ v, (x, v) ∉ binds) → bindL kindOf binds m x = m x
  | [], _, _ => rfl
  | (n, v) :: r, m, h => by
    unfold bindL
    rw [bindL_out fun w hw => h w (List.mem_cons_of_mem _ hw)]
    split
    · have : x ≠ n := by rintro rfl; exact h v List.mem_cons_self
      simp [this]
    · rfl
theorem bindC_out {kindOf : Str → Option NameKind} {x : Str} : ∀ {binds : List (Str × Value)} {m : Str → Option Value}, (∀ v, (x, v) ∉ binds) → bindC kindOf binds m x = m x
  | [], _, _ => rfl
  | (n, v) :: r, m, h => by
    unfold bindC
    rw [bindC_out fun w hw => h w (List.mem_cons_of_mem _ hw)]
    split
    · rfl
    · have : x ≠ n := by rintro rfl; exact h v List.mem_cons_self
      simp [this]
theorem bindL_get {kindOf : Str → Option NameKind} {x : Str} {v : Value} : ∀ {P : List Str} {vs : List Value} {i : Nat} {m : Str → Option Value}, P.Nodup → P[i]? = some x → vs[i]? = some v → kindOf x = some .local →
    bindL kindOf (P.zip vs) m x = some v
  | [], _, _, _, _, h, _, _ => by simp at h
  | _ :: _, [], _, _, _, _, h, _ => by simp at h
  | p :: P, w :: vs, 0, m, nd, h1, h2, hk => by
    simp at h1 h2; subst h1; subst h2
    show bindL kindOf ((p, w) :: P.zip vs) m p = _
    unfold bindL
    rw [bindL_out fun v hv => (List.nodup_cons.mp nd).1 (List.of_mem_zip hv).1, if_pos hk]
    simp
  | p :: P, w :: vs, i + 1, m, nd, h1, h2, hk => by
    show bindL kindOf ((p, w) :: P.zip vs) m x = _
    unfold bindL
    exact bindL_get (i := i) (List.nodup_cons.mp nd).2 (by simpa using h1) (by simpa using h2) hk
theorem bindC_get {kindOf : Str → Option NameKind} {x : Str} {v : Value} : ∀ {P : List Str} {vs : List Value} {i : Nat} {m : Str → Option Value}, P.Nodup → P[i]? = some x → vs[i]? = some v → kindOf x ≠ some .local →
    bindC kindOf (P.zip vs) m x = some v
  | [], _, _, _, _, h, _, _ => by simp at h
  | _ :: _, [], _, _, _, _, h, _ => by simp at h
  | p :: P, w :: vs, 0, m, nd, h1, h2, hk => by
    simp at h1 h2; subst h1; subst h2
    show bindC kindOf ((p, w) :: P.zip vs) m p = _
    unfold bindC
    rw [bindC_out fun v hv => (List.nodup_cons.mp nd).1 (List.of_mem_zip hv).1, if_neg hk]
    simp
  | p :: P, w :: vs, i + 1, m, nd, h1, h2, hk => by
    show bindC kindOf ((p, w) :: P.zip vs) m x = _
    unfold bindC
    exact bindC_get (i := i) (List.nodup_cons.mp nd).2 (by simpa using h1) (by simpa using h2) hk
noncomputable def start (N : List Str) (vs : List V) : St := vs.map some ++ List.replicate (N.length - vs.length) none
noncomputable def cxOf (CX : CXT) (P : Program) (w : World) (K : PySem.W.Frag) (mg : Str → Option Value) (base : Heap) (N : List Str) (qual : Str) (scope : Scope) (f : Addr) (cd : Value) (A : Around) (outer : List Env) (s : Shared) (H : Hp) (E : XK) : Cx where
  prog := P
  w := w
  K := K
  mg := mg
  base := base
  A := A.deeper (envOfC qual scope s.heap.objs.size f cd)
  N := N
  s₀ := s
  H₀ := H
  env := envOfC qual scope s.heap.objs.size f cd
  outer := outer
  stack := envOfC qual scope s.heap.objs.size f cd :: outer
  ex := []
  calm := true
  fn := fun _ => true
  pn := []
  xe := fun e s' => wpAny (model P w) (A.deeper (envOfC qual scope s.heap.objs.size f cd)) (leaving (envOfC qual scope s.heap.objs.size f cd) e) (fun _ s'' => CX outer H s E e s'') (fun e' s'' => CX outer H s E e' s'') s'
theorem cell_has {sc : Scope} {n : Nat} {x : Str} (h : sc.names.lookup x = some .cell) : ∃ c, (cellsFrom n sc.names []).lookup x = some c := by
  have q := PySem.W.cellsFrom_some sc.names n [] (.inl h)
  exact Option.isSome_iff_exists.mp q
theorem inv_start {CX : CXT} {P : Program} {w : World} {K : PySem.W.Frag} {mg : Str → Option Value} {base : Heap} {N ps : List Str} {qual : Str} {scope : Scope} {f : Addr} {cd : Value} {A : Around} {outer : List Env} {s s1 : Shared} {H : Hp} {E : XK} {us : List Value} {vs : List V}
    (S : FnScope N ps scope) (hd : A.handled = none) (e0 : Env0 P w K mg base A outer s H) (hl : vs.length = ps.length) (r : Vals vs us)
    (x : InCallC s s.heap.objs.size (bindL (envOfC qual scope s.heap.objs.size f cd).kindOf (ps.zip us) fun _ => none) (cellsFrom (s.heap.objs.size + 1) scope.names []) (bindC (envOfC qual scope s.heap.objs.size f cd).kindOf (ps.zip us) fun _ => none) s1) :
    Inv (cxOf CX P w K mg base N qual scope f cd A outer s H E) [] (start N vs) H s1 := by
  have hpl : ps.length ≤ N.length := by have := congrArg List.length S.pre; rw [List.length_take] at this; omega
  obtain ⟨h1, tk, rfl, hk⟩ := x.done
  have noA : ∀ b : Addr, b ∉ (cxOf CX P w K mg base N qual scope f cd A outer s H E).ex := fun b z => absurd (show b ∈ ([] : List Addr) from z) (by simp)
  refine ⟨⟨e0.mod, S.kind, rfl, rfl, Nat.le_refl _, fun y z c h1 h2 => ?_, fun y hy => ?_, fun y c _ h => ?_, fun _ => hd, Around.frames_deeper e0.frames, .inr ⟨rfl, rfl⟩, fun b z => absurd z (noA b), e0.bs, e0.bsz, fun b _ _ => noA b, fun b z => absurd z (noA b), e0.funs, e0.frf⟩,
    rfl, e0.bare, Un.kept hk, ⟨_, x.toInCall.ns, fun i y v h1 h2 h3 => ?_⟩, fun y c h => ⟨_, x.cell y c h⟩, e0.hok.fresh (Nat.le_refl _), fun y c h => ?_, fun p hp => absurd (show p ∈ ([] : List (Addr × Obj)) from hp) (by simp), e0.hok.kept hk, ?_⟩
  · exact name_of_addr x.apart (PySem.mem_of_lookup h1) (PySem.mem_of_lookup h2)
  · have hy : scope.names.lookup y = some .cell ∨ scope.names.lookup y = some .free := hy
    rcases hy with hy | hy
    · exact cell_has hy
    · exact absurd rfl (S.nofree _ (PySem.mem_of_lookup hy))
  · exact Nat.le_of_lt (x.above y c (PySem.mem_of_lookup h))
  · have hi : i < vs.length := by
      unfold start at h2
      by_cases hi : i < vs.length
      · exact hi
      · rw [List.getElem?_append_right (by simpa using hi)] at h2
        rw [List.getElem?_replicate] at h2
        split at h2 <;> cases h2
    have ha : vs[i]? = some v := by
      unfold start at h2
      rw [List.getElem?_append_left (by simpa using hi), List.getElem?_map] at h2
      cases e : vs[i]? with
      | none => rw [e] at h2; cases h2
      | some a => rw [e] at h2; cases h2; rfl
    obtain ⟨u, hu, rv⟩ := r.get ha
    have hp : ps[i]? = some y := by
      rw [← S.pre, List.getElem?_take_of_lt (by omega)]; exact h1
    have ndP : ps.Nodup := by rw [← S.pre]; exact S.nd.sublist (List.take_sublist _ _)
    refine ⟨u, rv, ?_⟩
    rcases S.par y (List.mem_of_getElem? hp) with k | k
    · exact .inl ⟨k, bindL_get ndP hp hu k⟩
    · obtain ⟨c, e⟩ := cell_has (n := s.heap.objs.size + 1) k
      refine .inr ⟨.inl k, c, e, ?_⟩
      have q := x.cell y c e
      rw [bindC_get ndP hp hu (by show scope.names.lookup y ≠ _; rw [k]; decide)] at q
      exact q
  · exact e0.hok.fresh (Nat.le_of_lt (x.above y c (PySem.mem_of_lookup h)))
  · unfold start
    show _ = N.length
    rw [List.length_append, List.length_map, List.length_replicate]
    omega
theorem fn_of {CX : CXT} {P : Program} {w : World} {K : PySem.W.Frag} {mg : Str → Option Value} {base : Heap} {k : Nat} {f : Addr} {name qual : Str} {params : Arguments} {body : List Stmt} {scope : Scope} {dV kV doc pm cdv ct oc : Value} {an od : Option Addr}
    {osl : Array (Option Value)} {N ps : List Str} {sp : Sp} (lk : K.lookup f = some ⟨oc, od, .func (PySem.W.fnOf name qual params body scope dV kV doc pm an cdv ct), osl⟩) (hcd : PySem.W.codeIn K cdv qual = true) (S : FnScope N ps scope)
    (len : ∀ vs H Q E, sp vs H Q E → vs.length = ps.length)
    (hbody : ∀ (A : Around) (outer : List Env) (s : Shared) (H : Hp) (vs : List V) (Q : VK) (E : XK), Room k (A.deeper (envOfC qual scope s.heap.objs.size f cdv)) → sp vs H Q E →
      ∃ t, PSs (cxOf CX P w K mg base N qual scope f cdv A outer s H E) body t ∧ t { nx := fun _ H' => Q .non H', rt := Q } (start N vs) H) :
    FnOk P w K mg base CX (k + 1) f (PySem.W.fnOf name qual params body scope dV kV doc pm an cdv ct) ps sp := by
  refine ⟨len, fun A outer s H args us vs Q E hr e0 hb r hsp => ?_⟩
  have hl := len _ _ _ _ hsp
  have KX : K.In s.heap := e0.mod.kin.keeps fun b o e => (e0.bs b o e).1
  have lim : s.heap.NoLimit := e0.mod.nolimit.keeps fun b o e => (e0.bs b o e).1
  have hkind : ∀ y ∈ ps.zip us, scope.names.lookup y.1 = some .local ∨ (scope.names.lookup y.1 = some .cell ∧ ((cellsFrom (s.heap.objs.size + 1) scope.names []).lookup y.1).isSome = true) := fun ⟨n, v⟩ hy => by
    rcases S.par n (List.of_mem_zip hy).1 with q | q
    · exact .inl q
    · exact .inr ⟨q, PySem.W.cellsFrom_some _ _ _ (.inl q)⟩
  refine codeAny_call_function hr.depth (KX _ _ lk) rfl S.co S.gen rfl (PySem.W.codeRec_of KX hcd) (hb _ _ _ _ ?_)
  refine wpAny_newFunctionEnv_cells S.kind hkind fun env he s1 x => ?_
  subst he
  refine ⟨lim.keeps x.toInCall.keep, codeAny_func ?_⟩
  obtain ⟨t, ht, hq⟩ := hbody A outer s H vs Q E (hr.deeper _) hsp
  have I : Inv (cxOf CX P w K mg base N qual scope f cdv A outer s H E) [] (start N vs) H s1 := inv_start S hr.hd e0 hl r x
  refine wpAny_mono (ht [] s1 (start N vs) H _ I hq) (fun fl s' hs => ?_) fun e s' hs => hs
  have fin : ∀ {σ' : St} {H' : Hp} {v : V} {u : Value}, Inv (cxOf CX P w K mg base N qual scope f cdv A outer s H E) [] σ' H' s' → RelV v u → Q v H' → CE outer P w H s Q u s' :=
    fun {σ' H' v u} J rv q => ⟨v, H', J.os, J.bare, J.base, J.hok, rv, q⟩
  cases fl with
  | ret u =>
    obtain ⟨v, σ', H', J, rv, q⟩ := hs
    exact fin J rv q
  | next =>
    obtain ⟨σ', H', J, q⟩ := hs
    exact fin (v := V.non) (u := Value.none) J rfl q
  | brk =>
    obtain ⟨_, _, _, q⟩ := hs
    exact False.elim q
  | cont =>
    obtain ⟨_, _, _, q⟩ := hs
    exact False.elim q
end L2
namespace L2
open PySem PySem.Spec PyProof.Rows
section
variable {X : Cx} {x : Str} {p pos : Pos} {e : Expr} {es : List Expr} {t : TA} {id T : String} {r : List V → Hp → VK → Prop}
noncomputable def tCB (r : List V → Hp → VK → Prop) (t : TA) : TE := fun σ H Q => t σ H fun vs H1 => r vs H1 Q
theorem pe_callB (hc : CallR X (.builtin id) r) (hg : Gl X x) (hm : X.mg x = none) (hv : bootBuiltins x = some (.builtin id)) (ha : PA X (e :: es) t) (hn : x ≠ "__name__" := by decide) (hdb : (x == ("__debug__" : Str)) = false := by decide)
    (he : starEach (e :: es) X.env = (false, eval e X.env) :: starEach es X.env := by rfl) (hpl : (backTo pos (starEach es X.env)).any (·.1) = false := by rfl) : PE X (.Call (.Name x p) (e :: es) [] pos) (tCB r t) := by
  intro pins s σ H Q I h
  refine wpAny_Call_Name_kw (ld_blt I hg hm hv ?_ hn hdb)
  exact PyProof.Rows.callWith_builtin1 (thn (ha pos pins s σ H _ I h) fun us s1 ⟨vs, H1, I1, r1, q1⟩ => hc pins s1 σ H1 vs us Q I1 r1 q1) he hpl
theorem pe_callTy (hc : CallR X (.type T) r) (hg : Gl X x) (hm : X.mg x = none) (hv : bootBuiltins x = some (.type T)) (ha : PA X (e :: es) t) (hn : x ≠ "__name__" := by decide) (hdb : (x == ("__debug__" : Str)) = false := by decide)
    (he : starEach (e :: es) X.env = (false, eval e X.env) :: starEach es X.env := by rfl) (hpl : (backTo pos (starEach es X.env)).any (·.1) = false := by rfl) : PE X (.Call (.Name x p) (e :: es) [] pos) (tCB r t) := by
  intro pins s σ H Q I h
  refine wpAny_Call_Name_kw (ld_blt I hg hm hv ?_ hn hdb)
  exact PyProof.Rows.callWith_type1 (thn (ha pos pins s σ H _ I h) fun us s1 ⟨vs, H1, I1, r1, q1⟩ => hc pins s1 σ H1 vs us Q I1 r1 q1) he hpl
end
end L2
namespace HT
open PySem PyProof.Rows
section
open PySem.SeqAt
open PySem.AutoSeq1 (wpAny_loadPart')
open PySem.MeetsSeq PySem.MeetsSeq2 PySem.MeetsSeq3
end
section
variable {prog : Program} {w : World} {A : Around} {E : Value → Shared → Prop} {s : Shared}
noncomputable def sIx (n d : Nat) : Option Int → Nat
  | none => d
  | some v => if v < 0 then (v + (n : Int)).toNat else min v.toNat n
theorem sIx_none (n d : Nat) : sIx n d none = d := rfl
theorem sIx_nat (n d k : Nat) : sIx n d (some (k : Int)) = min k n := by
  show (if (k : Int) < 0 then ((k : Int) + (n : Int)).toNat else min (k : Int).toNat n) = min k n
  rw [if_neg (by omega), Int.toNat_natCast]
end
end HT
namespace L2
open PySem PySem.Spec PyProof.Rows
noncomputable abbrev TO := St → Hp → (Option Int → Hp → Prop) → Prop
noncomputable def PO (X : Cx) (e : Option Expr) (t : TO) : Prop :=
  ∀ (pins : List (Addr × Obj)) (s : Shared) (σ : St) (H : Hp) (Q : Option Int → Hp → Prop), Inv X pins σ H s → t σ H Q →
    wpAny (model X.prog X.w) X.A (evalPart e X.env) (fun u s' => ∃ o H', Inv X pins σ H' s' ∧ IsPart u o ∧ Q o H') X.xe s
noncomputable def tNoPart : TO := fun _ H Q => Q none H
noncomputable def tPart (t : TE) : TO := fun σ H Q => t σ H fun x H1 => ∃ i, x = .int i ∧ Q (some i) H1
section
variable {X : Cx} {e : Expr} {te : TE} {lo hi : Option Expr} {tl th : TO} {pos p2 : Pos}
theorem po_none : PO X none tNoPart := by
  intro pins s σ H Q I h
  rw [evalPart_none]
  exact wpAny_pure ⟨none, H, I, .none, h⟩
theorem po_some (h : PE X e te) : PO X (some e) (tPart te) := by
  intro pins s σ H Q I hw
  rw [evalPart_some]
  refine thn (h pins s σ H _ I hw) fun u s1 hz35 => ?_
  obtain ⟨x, H1, I1, r1, q1⟩ := hz35
  obtain ⟨i, rfl, q⟩ := q1
  obtain ⟨t, rfl⟩ := r1
  exact ⟨some i, H1, I1, .int i t, q⟩
noncomputable def SlR (X : Cx) (r : V → Option Int → Option Int → Hp → VK → Prop) : Prop :=
  ∀ (pins : List (Addr × Obj)) (s : Shared) (σ : St) (H : Hp) (x : V) (v vl vu : Value) (lo hi : Option Int) (sl : Addr) (Q : VK), Inv X pins σ H s → RelV x v → s.heap.IsSliceOf sl vl vu .none → IsPart vl lo → IsPart vu hi → r x lo hi H Q →
    ∃ T id, typeLookup (.type T) "__getitem__" = pure (some (.builtin id)) ∧ s.TypeIs v T ∧ wpAny (model X.prog X.w) X.A (getItem v (.ref sl)) (EP X pins σ Q) X.xe s
noncomputable def tSl (r : V → Option Int → Option Int → Hp → VK → Prop) (te : TE) (tl th : TO) : TE := fun σ H Q => te σ H fun x H1 => tl σ H1 fun l H2 => th σ H2 fun u H3 => r x l u H3 Q
theorem pe_slice {r : V → Option Int → Option Int → Hp → VK → Prop} (hr : SlR X r) (he : PE X e te) (hl : PO X lo tl) (hu : PO X hi th) : PE X (.Subscript e (.Slice lo hi none p2) pos) (tSl r te tl th) := by
  intro pins s σ H Q I h
  refine Subscript_ (thn (he pins s σ H _ I h) fun v s1 hz36 => ?_)
  obtain ⟨x, H1, I1, r1, q1⟩ := hz36
  refine wpAny_Slice (thn (hl pins s1 σ H1 _ I1 q1) fun vl s2 hz37 => ?_)
  obtain ⟨l, H2, I2, pl, q2⟩ := hz37
  refine thn (hu pins s2 σ H2 _ I2 q2) fun vu s3 hz38 => ?_
  obtain ⟨u, H3, I3, pu, q3⟩ := hz38
  rw [evalPart_none]
  refine wpAny_pure ?_
  have I4 : Inv X pins σ H3 { s3 with heap := s3.heap.push { cls := .type "slice", data := .fields #[vl, vu, .none] } } := I3.kept (t' := s3.toks) fun b ob q => Heap.get?_push_of_some _ q
  obtain ⟨T, id, hT, ht, hg⟩ := hr pins { s3 with heap := s3.heap.push { cls := .type "slice", data := .fields #[vl, vu, .none] } } σ H3 x v vl vu l u s3.heap.objs.size Q I4 r1 (Heap.IsSliceOf.new ..) pl pu q3
  show wpAny (model X.prog X.w) X.A (subscriptTail e (.Slice lo hi none p2) v (.ref s3.heap.objs.size)) (EP X pins σ Q) X.xe { s3 with heap := s3.heap.push { cls := .type "slice", data := .fields #[vl, vu, .none] } }
  exact tail_any (ops := [.ref s3.heap.objs.size, v]) ht hT hg (by with_unfolding_all rfl)
noncomputable def cutV (xs : List V) (lo hi : Option Int) : List V := (xs.drop (HT.sIx xs.length 0 lo)).take (HT.sIx xs.length xs.length hi - HT.sIx xs.length 0 lo)
theorem cutV_length (xs : List V) (lo hi : Option Int) : (cutV xs lo hi).length ≤ xs.length := by
  unfold cutV
  rw [List.length_take, List.length_drop]
  omega
end
end L2
namespace L2
open PySem PySem.Spec PyProof.Rows
noncomputable def ixN (n : Nat) (i : Int) : Option Nat := if 0 ≤ i then (if i < n then some i.toNat else none) else if -(n : Int) ≤ i then some (i + n).toNat else none
noncomputable def atI {α : Type} (xs : List α) (i : Int) : Option α := (ixN xs.length i).bind fun j => xs[j]?
theorem ixN_seq {n : Nat} {i : Int} {j : Nat} (h : ixN n i = some j) : seqIndex? i n = some j ∧ j < n ∧ -(n : Int) ≤ i ∧ i < n := by
  unfold ixN at h
  by_cases h0 : 0 ≤ i
  · rw [if_pos h0] at h
    by_cases h1 : i < n
    · rw [if_pos h1] at h
      have e : i.toNat = j := Option.some.inj h
      exact ⟨by rw [seqIndex_of h0 h1, e], by omega, by omega, h1⟩
    · rw [if_neg h1] at h; cases h
  · rw [if_neg h0] at h
    by_cases h1 : -(n : Int) ≤ i
    · rw [if_pos h1] at h
      have e : (i + n).toNat = j := Option.some.inj h
      exact ⟨by rw [seqIndex_neg (by omega) h1, e], by omega, h1, by omega⟩
    · rw [if_neg h1] at h; cases h
theorem atI_get {α : Type} {xs : List α} {i : Int} {v : α} (h : atI xs i = some v) : ∃ j, seqIndex? i xs.length = some j ∧ xs[j]? = some v ∧ j < xs.length ∧ -(xs.length : Int) ≤ i ∧ i < xs.length := by
  unfold atI at h
  cases e : ixN xs.length i with
  | none => rw [e] at h; cases h
  | some j =>
    rw [e] at h
    obtain ⟨h1, h2, h3, h4⟩ := ixN_seq e
    exact ⟨j, h1, h, h2, h3, h4⟩
theorem atI_nat {α : Type} {xs : List α} {j : Nat} {v : α} (h : xs[j]? = some v) : atI xs (j : Int) = some v := by
  have hj : j < xs.length := (List.getElem?_eq_some_iff.mp h).1
  have e : ixN xs.length (j : Int) = some j := by
    unfold ixN
    rw [if_pos (by omega), if_pos (by omega)]; simp
  unfold atI; rw [e]; exact h
noncomputable def PlainIx (b : Expr) : Prop := ∀ o i, subscripted b false o i = operate [o, i] (getItem o i)
noncomputable def IxR (X : Cx) (r : R2) : Prop :=
  ∀ (value slice : Expr) (pins : List (Addr × Obj)) (s : Shared) (σ : St) (H : Hp) (x y : V) (v u : Value) (Q : VK), Inv X pins σ H s → RelV x v → RelV y u → r x y H Q →
    subscripted slice false v u = operate [v, u] (getItem v u) → wpAny (model X.prog X.w) X.A (subscriptTail value slice v u) (EP X pins σ Q) X.xe s
noncomputable def MtR (X : Cx) (id : String) (r : V → List V → Hp → VK → Prop) : Prop :=
  ∀ (pins : List (Addr × Obj)) (s : Shared) (σ : St) (H : Hp) (x : V) (xs : List V) (v : Value) (us : List Value) (Q : VK), Inv X pins σ H s → RelV x v → Vals xs us → r x xs H Q →
    wpAny (model X.prog X.w) X.A (call (.builtin id) (v :: us)) (EP X pins σ Q) X.xe s
section
variable {X : Cx} {a b : Expr} {ta tb : TE} {pos : Pos}
theorem IxR.or {r r' : R2} (h : IxR X r) (h' : IxR X r') : IxR X (fun x y H Q => r x y H Q ∨ r' x y H Q) := by
  intro value slice pins s σ H x y v u Q I rx ry q hs
  rcases q with q | q
  · exact h value slice pins s σ H x y v u Q I rx ry q hs
  · exact h' value slice pins s σ H x y v u Q I rx ry q hs
theorem pe_ix {r : R2} (hr : IxR X r) (ha : PE X a ta) (hb : PE X b tb) (hs : PlainIx b) : PE X (.Subscript a b pos) (tOp r ta tb) := by
  intro pins s σ H Q I h
  exact Subscript_ (binT ha hb I h fun v u s2 x y H2 I2 rx ry q => hr a b pins s2 σ H2 x y v u Q I2 rx ry q (hs _ _))
noncomputable def rIxL (K : PySem.W.Frag) : R2 := fun x y H Q => ∃ p xs i v, x = .ref p ∧ y = .int i ∧ SqL K H p xs ∧ atI xs i = some v ∧ Q v H
noncomputable def rIxT (K : PySem.W.Frag) : R2 := fun x y H Q => ∃ p xs i v, x = .ref p ∧ y = .int i ∧ SqT K H p xs ∧ atI xs i = some v ∧ Q v H
noncomputable def rIxS : R2 := fun x y H Q => ∃ z i c, x = .str z ∧ y = .int i ∧ z.length ≤ sizeLine ∧ atI z.cps.toList i = some c ∧ Q (.str ⟨#[c]⟩) H
theorem ix_list : IxR X (rIxL X.K) := by
  intro value slice pins s σ H x y v u Q I rx ry h hs
  obtain ⟨p, xs, i, z, rfl, rfl, hq, he, q⟩ := h
  cases rx
  obtain ⟨t, rfl⟩ := ry
  obtain ⟨its, r, pl, hz⟩ := I.list hq
  obtain ⟨j, h1, h2, h3, h4, h5⟩ := atI_get he
  obtain ⟨w, ew, rw'⟩ := r.get h2
  have hl := r.length
  have hn := line63
  have fin : EP X pins σ Q w s := ⟨z, H, I, rw', q⟩
  by_cases h0 : 0 ≤ i
  · have hj : i.toNat = j := by
      rw [seqIndex_of h0 h5] at h1
      exact Option.some.inj h1
    exact item_listR pl.isList h0 (by omega) (by rw [hj]; simpa using ew) fin hs
  · have hj : (i + (its.toArray.size : Int)).toNat = j := by
      rw [seqIndex_neg (by omega) h4] at h1
      rw [List.size_toArray, ← hl]
      exact Option.some.inj h1
    exact subscriptTail_builtinR (x := w) pl.isList.typeIs slot_list_getitem.lookup
      (wpAny_getItem_list_neg (Q := fun r s' => r = w ∧ EP X pins σ Q r s') pl.isList (by omega) (by rw [List.size_toArray] <;> omega) (by omega) (by rw [hj]; simpa using ew) ⟨rfl, fin⟩) hs
theorem ix_tup : IxR X (rIxT X.K) := by
  intro value slice pins s σ H x y v u Q I rx ry h hs
  obtain ⟨p, xs, i, z, rfl, rfl, hq, he, q⟩ := h
  cases rx
  obtain ⟨t, rfl⟩ := ry
  obtain ⟨its, r, pl, hz⟩ := I.tuple hq
  obtain ⟨j, h1, h2, h3, h4, h5⟩ := atI_get he
  obtain ⟨w, ew, rw'⟩ := r.get h2
  have hl := r.length
  have hn := line63
  have fin : EP X pins σ Q w s := ⟨z, H, I, rw', q⟩
  exact subscriptTail_builtinR (x := w) pl.typeIs slot_tuple_getitem.lookup
    (getItem_tuple (j := j) (Q := fun r s' => r = w ∧ EP X pins σ Q r s') pl (by omega) (by omega) (by rw [List.size_toArray, ← hl]; exact h1) (by simpa using ew) ⟨rfl, fin⟩) hs
theorem ix_str : IxR X rIxS := by
  intro value slice pins s σ H x y v u Q I rx ry h hs
  obtain ⟨z, i, c, rfl, rfl, hz, he, q⟩ := h
  obtain ⟨t, rfl⟩ := rx
  obtain ⟨t', rfl⟩ := ry
  obtain ⟨j, h1, h2, h3, h4, h5⟩ := atI_get he
  have hl : z.cps.toList.length = z.length := by simp [Str.length]
  rw [hl] at h1 h4 h5
  have hn := line63
  exact tail_any (typeIs_str s z t) slot_str_getitem.lookup (getItem_str (c := c) (by
    have e1 : decide (i < -(2 ^ 63 : Int)) = false := decide_eq_false (by omega)
    have e2 : decide (i ≥ 2 ^ 63) = false := decide_eq_false (by omega)
    rw [e1, e2, Bool.or_false]) (by rw [h1]; simpa using h2) ⟨.str ⟨#[c]⟩, H, I.tok _, ⟨_, rfl⟩, q⟩) hs
theorem mapSeq_set (its : List Value) (n j : Nat) (u : Value) : Obj.mapSeq (·.setIfInBounds j u) { cls := .type "list", data := .seq its.toArray n } = { cls := .type "list", data := .seq (its.set j u).toArray n } := by
  simp [Obj.mapSeq]
theorem Inv.lst {pins : List (Addr × Obj)} {σ : St} {H : Hp} {s : Shared} {p : Addr} {xs : List V} (I : Inv X pins σ H s) (h : H p = some (.lst xs)) :
    ∃ (its : List Value) (n : Nat), Vals xs its ∧ s.heap.get? p = some { cls := .type "list", data := .seq its.toArray n } ∧ xs.length ≤ sizeLine := by
  obtain ⟨z, its, n, r, e⟩ := I.hok p _ h
  exact ⟨its, n, r, e, z⟩
theorem Inv.lstUpd {pins : List (Addr × Obj)} {σ : St} {H : Hp} {s : Shared} {p : Addr} {xs ys : List V} {its its' : List Value} {n n' : Nat} {f : Obj → Obj} (I : Inv X pins σ H s) (h : H p = some (.lst xs))
    (ho : s.heap.get? p = some { cls := .type "list", data := .seq its.toArray n }) (hf : f { cls := .type "list", data := .seq its.toArray n } = { cls := .type "list", data := .seq its'.toArray n' }) (r : Vals ys its') (hz : ys.length ≤ sizeLine) (t : Nat) :
    Inv X pins σ (upd H p (.lst ys)) { s with heap := s.heap.update p f, toks := t } := by
  have e : (s.heap.update p f).get? p = some { cls := .type "list", data := .seq its'.toArray n' } := by
    rw [Heap.get?_update_self f ho (by rw [hf] <;> rfl), hf]
  refine I.write (x := p) (e := p) (by rw [h]; trivial) (.inl rfl) (fun b u hb q => (Heap.get?_update_other _ _ (Ne.symm hb)).trans q) ⟨_, e⟩ ?_
  exact ⟨hz, its', n', r, e⟩
noncomputable def rSetL : V → V → V → Hp → (Hp → Prop) → Prop := fun o i v H Q => ∃ p xs k j, o = .ref p ∧ i = .int k ∧ H p = some (.lst xs) ∧ ixN xs.length k = some j ∧ Q (upd H p (.lst (xs.set j v)))
theorem set_list : PSet X rSetL := by
  intro pins s σ H o i v ov iv u Q I ro ri rv h
  obtain ⟨p, xs, k, j, rfl, rfl, hp, hj, q⟩ := h
  cases ro
  obtain ⟨t, rfl⟩ := ri
  obtain ⟨its, n, r, ho, hz⟩ := I.lst hp
  obtain ⟨h1, h2, h3, h4⟩ := ixN_seq hj
  have hl := r.length
  have hn := line63
  have I' : Inv X pins σ (upd H p (.lst (xs.set j v))) { s with heap := s.heap.update p (Obj.mapSeq (·.setIfInBounds j u)) } :=
    I.lstUpd hp ho (mapSeq_set its n j u) (r.set rv j) (by rw [List.length_set]; exact hz) s.toks
  by_cases h0 : 0 ≤ k
  · have hk : k.toNat = j := by
      rw [seqIndex_of h0 h4] at h1
      exact Option.some.inj h1
    exact PySem.W.ki_setAt ho h0 (by omega) (by rw [List.size_toArray, ← hl]; exact h4) (by rw [hk]; exact ⟨_, I', q⟩)
  · have hk : (k + (its.toArray.size : Int)).toNat = j := by
      rw [seqIndex_neg (by omega) h3] at h1
      rw [List.size_toArray, ← hl]
      exact Option.some.inj h1
    exact PySem.W.ki_setBack ho (by omega) (by rw [List.size_toArray, ← hl]; exact h3) (by omega) (by rw [hk]; exact ⟨_, I', q⟩)
theorem slice_bounds (lo hi : Option Int) (n : Nat) : (sliceBounds lo hi none n).1 = ((HT.sIx n 0 lo : Nat) : Int) ∧ (sliceBounds lo hi none n).2.1 = ((HT.sIx n n hi : Nat) : Int) ∧ (sliceBounds lo hi none n).2.2 = 1 := by
  refine ⟨?_, ?_, rfl⟩
  · cases lo with
    | none => simp [sliceBounds, HT.sIx]
    | some i =>
      simp only [sliceBounds, HT.sIx, Option.getD_none, show (1 : Int) > 0 by decide, if_true]
      by_cases h : i < 0
      · simp only [h, if_true] <;> omega
      · simp only [h, if_false] <;> omega
  · cases hi with
    | none => simp [sliceBounds, HT.sIx]
    | some i =>
      simp only [sliceBounds, HT.sIx, Option.getD_none, show (1 : Int) > 0 by decide, if_true]
      by_cases h : i < 0
      · simp only [h, if_true] <;> omega
      · simp only [h, if_false] <;> omega
theorem slicePick_cut (its : List Value) (lo hi : Option Int) : slicePick its.toArray lo hi none = ((its.drop (HT.sIx its.length 0 lo)).take (HT.sIx its.length its.length hi - HT.sIx its.length 0 lo)).toArray := by
  obtain ⟨h1, h2, h3⟩ := slice_bounds lo hi its.toArray.size
  unfold slicePick
  rw [h1, h2, h3]
  simp only [sliceRange_one, pick_run, List.size_toArray] <;> rfl
noncomputable def rSlL (K : PySem.W.Frag) : V → Option Int → Option Int → Hp → VK → Prop := fun x lo hi H Q => ∃ a xs, x = .ref a ∧ SqL K H a xs ∧ ∀ p, H p = none → Q (.ref p) (upd H p (.lst (cutV xs lo hi)))
theorem sl_list : SlR X (rSlL X.K) := by
  intro pins s σ H x v vl vu lo hi sl Q I rx hs pl pu h
  obtain ⟨a, xs, rfl, hx, q⟩ := h
  cases rx
  obtain ⟨its, r, ht, hz⟩ := I.list hx
  have hlen := r.length
  refine ⟨"list", _, slot_list_getitem.lookup, ht.isList.typeIs, ?_⟩
  refine wpAny_getItem_list_slice ht.isList hs pl pu .none (by simp) ?_ (by rw [List.size_toArray] <;> omega)
  rw [slicePick_cut, ← hlen]
  refine ⟨.ref s.heap.objs.size, _, I.laid (t' := s.toks) (o := .lst (cutV xs lo hi)) (fun b ob q => Heap.get?_push_of_some _ q) (Nat.le_refl _) ?_, rfl, q _ (I.hok.fresh (Nat.le_refl _))⟩
  exact ⟨Nat.le_trans (cutV_length xs lo hi) hz, _, 0, (r.drop (HT.sIx xs.length 0 lo)).take (HT.sIx xs.length xs.length hi - HT.sIx xs.length 0 lo), Heap.get?_push_size _ rfl⟩
noncomputable def flatV : V → Bool
  | .non => true
  | .bl _ => true
  | .int _ => true
  | .str _ => true
  | _ => false
noncomputable def eqV : V → V → Bool
  | .non, .non => true
  | .bl a, .bl b => a == b
  | .bl a, .int b => (if a then 1 else 0) == b
  | .int a, .bl b => a == (if b then 1 else 0)
  | .int a, .int b => a == b
  | .str a, .str b => a == b
  | _, _ => false
theorem eqAt_V {A : Around} {s : Shared} {y x : V} {u v : Value} (ry : RelV y u) (rx : RelV x v) (fy : flatV y = true) (fx : flatV x = true) : SeqAt.EqAt A s u v (eqV y x) := by
  cases y with
  | non =>
    cases ry
    cases x with
    | non => cases rx; exact SeqAt.EqAt.same _
    | bl b => cases rx; exact SeqAt.EqAt.none_bool b
    | int b => obtain ⟨t, rfl⟩ := rx; exact SeqAt.EqAt.none_int b t
    | str b => obtain ⟨t, rfl⟩ := rx; exact SeqAt.EqAt.none_str b t
    | _ => exact absurd (show false = true from fx) Bool.false_ne_true
  | bl a =>
    cases ry
    cases x with
    | non => cases rx; exact SeqAt.EqAt.bool_none a
    | bl b => cases rx; exact SeqAt.EqAt.bool_bool a b
    | int b => obtain ⟨t, rfl⟩ := rx; exact SeqAt.EqAt.bool_int a b t
    | str b => obtain ⟨t, rfl⟩ := rx; exact SeqAt.EqAt.bool_str a b t
    | _ => exact absurd (show false = true from fx) Bool.false_ne_true
  | int a =>
    obtain ⟨t', rfl⟩ := ry
    cases x with
    | non => cases rx; exact SeqAt.EqAt.int_none a t'
    | bl b => cases rx; exact SeqAt.EqAt.int_bool a t' b
    | int b => obtain ⟨t, rfl⟩ := rx; exact SeqAt.EqAt.int_int a t' b t
    | str b => obtain ⟨t, rfl⟩ := rx; exact SeqAt.EqAt.int_str a t' b t
    | _ => exact absurd (show false = true from fx) Bool.false_ne_true
  | str a =>
    obtain ⟨t', rfl⟩ := ry
    cases x with
    | non => cases rx; exact SeqAt.EqAt.str_none a t'
    | bl b => cases rx; exact SeqAt.EqAt.str_bool a t' b
    | int b => obtain ⟨t, rfl⟩ := rx; exact SeqAt.EqAt.str_int a t' b t
    | str b => obtain ⟨t, rfl⟩ := rx; exact SeqAt.EqAt.str_str a t' b t
    | _ => exact absurd (show false = true from fx) Bool.false_ne_true
  | _ => exact absurd (show false = true from fy) Bool.false_ne_true
noncomputable def eqU (x : V) (u : Value) : Bool := match u with
  | .none => eqV .non x
  | .bool b => eqV (.bl b) x
  | .int i _ => eqV (.int i) x
  | .str z _ => eqV (.str z) x
  | _ => false
theorem eqU_of {x y : V} {u : Value} (r : RelV y u) (f : flatV y = true) : eqU x u = eqV y x := by
  cases y with
  | non => cases r; rfl
  | bl b => cases r; rfl
  | int i => obtain ⟨t, rfl⟩ := r; rfl
  | str z => obtain ⟨t, rfl⟩ := r; rfl
  | _ => exact absurd (show false = true from f) Bool.false_ne_true
theorem any_eqU {x : V} : ∀ {xs : List V} {us : List Value}, Vals xs us → xs.all flatV = true → us.any (eqU x) = xs.any fun y => eqV y x
  | _, _, .nil, _ => rfl
  | y :: xs, u :: us, .cons r t, f => by
    rw [List.all_cons, Bool.and_eq_true] at f
    rw [List.any_cons, List.any_cons, eqU_of r f.1, any_eqU t f.2]
theorem mem_eqAt {A : Around} {s : Shared} {x : V} {v : Value} (rx : RelV x v) (fx : flatV x = true) : ∀ {xs : List V} {us : List Value}, Vals xs us → xs.all flatV = true → ∀ u ∈ us, SeqAt.EqAt A s u v (eqU x u)
  | _, _, .nil, _ => fun u hu => by cases hu
  | y :: xs, u :: us, .cons r t, f => fun u' hu => by
    rw [List.all_cons, Bool.and_eq_true] at f
    rcases List.mem_cons.mp hu with rfl | hu
    · rw [eqU_of r f.1]; exact eqAt_V r rx f.1 fx
    · exact mem_eqAt rx fx t f.2 u' hu
noncomputable def inV (x : V) (xs : List V) : Bool := xs.any fun y => eqV y x
noncomputable def rIn (K : PySem.W.Frag) (neg : Bool) : R2 := fun x y H Q => ∃ p xs, y = .ref p ∧ (SqL K H p xs ∨ SqT K H p xs) ∧ flatV x = true ∧ xs.all flatV = true ∧ Q (.bl (if neg then !inV x xs else inV x xs)) H
theorem op_in_seq : OpR X (compareOp .In) (rIn X.K false) := by
  intro pins s σ H x y v u Q I rx ry h
  obtain ⟨p, xs, rfl, hq, fx, fs, q⟩ := h
  cases ry
  rcases hq with hq | hq
  · obtain ⟨its, r, pl, hz⟩ := I.list hq
    refine SeqAt.in_listAt (eqU x) pl.isList (fun w hw => mem_eqAt rx fx r fs w (by simpa using hw)) ⟨.bl _, H, I, rfl, ?_⟩
    rw [show its.toArray.any (eqU x) = its.any (eqU x) by simp, any_eqU r fs]
    exact q
  · obtain ⟨its, r, pl, hz⟩ := I.tuple hq
    refine SeqAt.in_tupleAt (eqU x) pl (fun w hw => mem_eqAt rx fx r fs w (by simpa using hw)) ⟨.bl _, H, I, rfl, ?_⟩
    rw [show its.toArray.any (eqU x) = its.any (eqU x) by simp, any_eqU r fs]
    exact q
theorem op_notIn_seq : OpR X (compareOp .NotIn) (rIn X.K true) := by
  intro pins s σ H x y v u Q I rx ry h
  obtain ⟨p, xs, rfl, hq, fx, fs, q⟩ := h
  cases ry
  rcases hq with hq | hq
  · obtain ⟨its, r, pl, hz⟩ := I.list hq
    refine SeqAt.notIn_listAt (eqU x) pl.isList (fun w hw => mem_eqAt rx fx r fs w (by simpa using hw)) ⟨.bl _, H, I, rfl, ?_⟩
    rw [show its.toArray.any (eqU x) = its.any (eqU x) by simp, any_eqU r fs]
    exact q
  · obtain ⟨its, r, pl, hz⟩ := I.tuple hq
    refine SeqAt.notIn_tupleAt (eqU x) pl (fun w hw => mem_eqAt rx fx r fs w (by simpa using hw)) ⟨.bl _, H, I, rfl, ?_⟩
    rw [show its.toArray.any (eqU x) = its.any (eqU x) by simp, any_eqU r fs]
    exact q
theorem call_list_of : CallR X (.type "list") (fun xs H Q => ∃ p ys, xs = [.ref p] ∧ (SqL X.K H p ys ∨ SqT X.K H p ys) ∧ ∀ l, H l = none → Q (.ref l) (upd H l (.lst ys))) := by
  intro pins s σ H xs us Q I r h
  obtain ⟨p, ys, rfl, hq, q⟩ := h
  obtain ⟨u, rfl, rx⟩ := vals1 r
  cases rx
  have fin : ∀ (its : List Value), Vals ys its → ys.length ≤ sizeLine → ∀ (h' : Heap) (c' : Nat), (∀ b o', s.heap.get? b = some o' → h'.get? b = some o') →
      h'.get? s.heap.objs.size = some { cls := .type "list", dict := none, data := .seq its.toArray c', slots := #[] } → EP X pins σ Q (.ref s.heap.objs.size) { s with heap := h' } := fun its r' hz h' c' kp e =>
    ⟨.ref s.heap.objs.size, _, I.laid (t' := s.toks) kp (Nat.le_refl _) (show ObjOk X.prog X.w _ h' _ (.lst ys) from ⟨hz, its, c', r', e⟩), rfl, q _ (I.hok.fresh (Nat.le_refl _))⟩
  rcases hq with hq | hq
  · obtain ⟨its, r', pl, hz⟩ := I.list hq
    have hlen := r'.length
    obtain ⟨o, ho, hc, n, hd⟩ := pl.isList
    exact call_list_seq p (.inl rfl) ho hc hd (fun h' c' kp e => fin its r' hz h' c' kp e) (by simp only [List.size_toArray] <;> omega)
  · obtain ⟨its, r', pl, hz⟩ := I.tuple hq
    have hlen := r'.length
    obtain ⟨o, ho, hc, n, hd⟩ := pl
    exact call_list_seq p (.inr rfl) ho hc hd (fun h' c' kp e => fin its r' hz h' c' kp e) (by simp only [List.size_toArray] <;> omega)
theorem call_tuple_of : CallR X (.type "tuple") (fun xs H Q => ∃ p ys, xs = [.ref p] ∧ ((SqL X.K H p ys ∧ ∀ l, H l = none → Q (.ref l) (upd H l (.tup ys))) ∨ (SqT X.K H p ys ∧ Q (.ref p) H))) := by
  intro pins s σ H xs us Q I r h
  obtain ⟨p, ys, rfl, h⟩ := h
  obtain ⟨u, rfl, rx⟩ := vals1 r
  cases rx
  rcases h with ⟨hq, q⟩ | ⟨hq, q⟩
  · obtain ⟨its, r', pl, hz⟩ := I.list hq
    have hlen := r'.length
    refine call_tuple_list pl.isList (fun h' kp => ?_) (by simp only [List.size_toArray] <;> omega)
    have I1 : Inv X pins σ H { s with heap := h' } := I.kept (t' := s.toks) kp
    have I2 : Inv X pins σ (upd H h'.objs.size (.tup ys)) { s with heap := h'.push { cls := .type "tuple", data := .seq its.toArray } } :=
      I1.laid (t' := s.toks) (fun b o e => Heap.get?_push_of_some _ e) (Nat.le_refl _) (show ObjOk X.prog X.w _ _ _ (.tup ys) from ⟨hz, its, r', IsTup.new _ _⟩)
    exact ⟨.ref h'.objs.size, _, I2, rfl, q _ (I1.hok.fresh (Nat.le_refl _))⟩
  · obtain ⟨its, r', pl, hz⟩ := I.tuple hq
    exact call_tuple_same pl ⟨.ref p, H, I, rfl, q⟩
noncomputable def tyV (K : PySem.W.Frag) (T : String) (x : V) (H : Hp) : Prop := match x with
  | .str _ => T = "str"
  | .int _ => T = "int"
  | .ref p => (T = "list" ∧ ∃ xs, SqL K H p xs) ∨ (T = "tuple" ∧ ∃ o, K.lookup p = some o ∧ o.cls = .type "tuple" ∧ o.dict = none) ∨
      (T = "dict" ∧ ((∃ kvs, H p = some (.dK kvs)) ∨ ∃ kvs, H p = some (.dT kvs))) ∨ (T = "set" ∧ ∃ S n, H p = some (.set S n))
  | _ => False
theorem tyV_is {pins : List (Addr × Obj)} {σ : St} {H : Hp} {s : Shared} {T : String} {x : V} {v : Value} (I : Inv X pins σ H s) (r : RelV x v) (ty : tyV X.K T x H) :
    s.TypeIs v T ∧ ∀ a, v = .ref a → ∃ ob, s.heap.get? a = some ob ∧ ob.dict = none := by
  cases x with
  | str z =>
    obtain ⟨t, rfl⟩ := r
    cases (show T = "str" from ty)
    exact ⟨typeIs_str s z t, fun _ e => nomatch e⟩
  | int i =>
    obtain ⟨t, rfl⟩ := r
    cases (show T = "int" from ty)
    exact ⟨typeIs_int s i t, fun _ e => nomatch e⟩
  | ref p =>
    cases r
    rcases ty with ⟨rfl, xs, hq⟩ | ⟨rfl, o, hk, hc, hd⟩ | ⟨rfl, hk⟩ | ⟨rfl, S, n, hk⟩
    · obtain ⟨its, _, pl, _⟩ := I.list hq
      refine ⟨pl.isList.typeIs, fun a e => ?_⟩
      cases e
      obtain ⟨o, n, e, c, hd, _⟩ := pl
      exact ⟨o, e, hd⟩
    · refine ⟨⟨o, I.kIn p o hk, hc⟩, fun a e => ?_⟩
      cases e
      exact ⟨o, I.kIn _ o hk, hd⟩
    · have z : ∃ o, s.heap.get? p = some o ∧ o.ExactDict := by
        rcases hk with ⟨kvs, hk⟩ | ⟨kvs, hk⟩
        · obtain ⟨_, _, _, _, o, _, _, e, ex, _⟩ := I.hok p _ hk
          exact ⟨o, e, ex⟩
        · obtain ⟨_, _, _, _, o, _, _, e, ex, _⟩ := I.hok p _ hk
          exact ⟨o, e, ex⟩
      obtain ⟨o, e, ex⟩ := z
      refine ⟨⟨o, e, ex.1⟩, fun a e2 => ?_⟩
      cases e2
      exact ⟨o, e, ex.2.1⟩
    · obtain ⟨o, _, _, _, e, ex, _⟩ := I.hok p _ hk
      refine ⟨⟨o, e, ex.1⟩, fun a e2 => ?_⟩
      cases e2
      exact ⟨o, e, ex.2.1⟩
  | _ => exact False.elim ty
noncomputable def tBM0 (K : PySem.W.Frag) (T : String) (r : V → List V → Hp → VK → Prop) (to : TE) : TE := fun σ H Q => to σ H fun x H1 => tyV K T x H1 ∧ r x [] H1 Q
noncomputable def tBM (K : PySem.W.Frag) (T : String) (r : V → List V → Hp → VK → Prop) (to : TE) (t : TA) : TE := fun σ H Q => to σ H fun x H1 => tyV K T x H1 ∧ t σ H1 fun xs H2 => r x xs H2 Q
variable {o e : Expr} {es : List Expr} {to : TE} {t : TA} {name : Str} {apos cpos : Pos} {T id : String} {r : V → List V → Hp → VK → Prop}
theorem pe_bm0 (pa : PlainAttrs T) (slot : Slot T name id) (hty : typeOf (.builtin id) = pure (.type "method_descriptor")) (hm : MtR X id r) (ho : PE X o to)
    (hbase : attributeBase o name X.env (eval o X.env) = eval o X.env := by rfl) (hline : (apos.endLine == cpos.line) = true := by rfl) : PE X (.Call (.Attribute o name apos) [] [] cpos) (tBM0 X.K T r to) := by
  intro pins s σ H Q I h
  refine wpAny_Call_method0_late hbase hline (thn (ho pins s σ H _ I h) fun v s1 hz39 => ?_)
  obtain ⟨x, H1, I1, r1, ty, q1⟩ := hz39
  obtain ⟨h1, h2⟩ := tyV_is I1 r1 ty
  exact ⟨T, id, pa, slot, hty, h1, h2, Calls.callWith_builtin rfl (PySem.evalArgs_none (hm pins s1 σ H1 x [] v [] Q I1 r1 .nil q1))⟩
theorem pe_bm (pa : PlainAttrs T) (slot : Slot T name id) (hty : typeOf (.builtin id) = pure (.type "method_descriptor")) (hm : MtR X id r) (ho : PE X o to) (ha : PA X (e :: es) t)
    (hbase : attributeBase o name X.env (eval o X.env) = eval o X.env := by rfl)
    (hfew : ((backTo cpos (starEach (e :: es) X.env)).all (fun x => !x.1) && (backToKw cpos (keywordEach [] X.env)).all (fun x => x.1.isSome)
      && decide ((e :: es).length + ([] : List Keyword).length + (if ([] : List Keyword).isEmpty then 0 else 1) < 30)) = true := by rfl)
    (hline : (apos.endLine == cpos.line) = true := by rfl) (hs : starEach (e :: es) X.env = (false, eval e X.env) :: starEach es X.env := by rfl) (hplain : (backTo cpos (starEach es X.env)).any (·.1) = false := by rfl) :
    PE X (.Call (.Attribute o name apos) (e :: es) [] cpos) (tBM X.K T r to t) := by
  intro pins s σ H Q I h
  refine wpAny_Call_method_late hbase hfew hline rfl (thn (ho pins s σ H _ I h) fun v s1 hz40 => ?_)
  obtain ⟨x, H1, I1, r1, ty, q1⟩ := hz40
  obtain ⟨h1, h2⟩ := tyV_is I1 r1 ty
  refine ⟨T, id, pa, slot, hty, h1, h2, ?_⟩
  have hA := ha cpos pins s1 σ H1 _ I1 q1
  rw [hs] at hA ⊢
  refine Calls.callWith_builtin (by show (false || (backTo cpos (starEach es X.env)).any (·.1)) = false; rw [hplain] <;> rfl) (Calls.evalArgs_plain ?_)
  exact thn hA fun us s2 ⟨vs, H2, I2, r2, q2⟩ => hm pins s2 σ H2 x vs v us Q I2 r1 r2 q2
end
end L2
namespace L2
open PySem PySem.Spec PyProof.Rows
noncomputable def MtM (X : Cx) (id : String) (r : V → List V → Hp → VK → Prop) : Prop :=
  ∀ (pins : List (Addr × Obj)) (s : Shared) (σ : St) (H : Hp) (x : V) (xs : List V) (v : Value) (us : List Value) (Q : VK), Inv X pins σ H s → RelV x v → Vals xs us → r x xs H Q →
    wpAny (model X.prog X.w) X.A (call (.builtin id) (v :: us)) (EP X pins σ Q) X.xe s
theorem Vals.one {x : V} {us : List Value} (h : Vals [x] us) : ∃ u, us = [u] ∧ RelV x u := by
  cases h with
  | cons r k => cases k; exact ⟨_, rfl, r⟩
theorem Vals.two {x y : V} {us : List Value} (h : Vals [x, y] us) : ∃ u v, us = [u, v] ∧ RelV x u ∧ RelV y v := by
  cases h with
  | cons r k => cases k with
    | cons q m => cases m; exact ⟨_, _, rfl, r, q⟩
theorem Vals.zero : ∀ {us : List Value}, Vals [] us → us = []
  | _, .nil => rfl
section
variable {X : Cx} {pins : List (Addr × Obj)} {σ : St} {H : Hp} {s : Shared} {l b : Addr} {xs ys zs : List V}
theorem Inv.lset {its its' : List Value} {n : Nat} {f : Array Value → Array Value} {t' : Nat} (I : Inv X pins σ H s) (hH : H l = some (.lst xs))
    (e : s.heap.get? l = some { cls := .type "list", data := .seq its.toArray n }) (hf : f its.toArray = its'.toArray) (hv : Vals ys its') (hz : ys.length ≤ sizeLine) :
    Inv X pins σ (upd H l (.lst ys)) { s with heap := s.heap.update l (Obj.mapSeq f), toks := t' } := by
  have q := PySem.IsL.update e f
  rw [hf] at q
  refine I.write (x := l) (e := l) (by rw [hH]; exact trivial) (.inl rfl) (fun b' u hb hu => (Heap.get?_update_other s.heap (Obj.mapSeq f) (Ne.symm hb)).trans hu) ⟨_, q⟩ ?_
  exact ⟨hz, its', _, hv, q⟩
theorem Inv.lnew {its : List Value} {t' : Nat} (I : Inv X pins σ H s) (hv : Vals ys its) (hz : ys.length ≤ sizeLine) :
    Inv X pins σ (upd H s.heap.objs.size (.lst ys)) { s with heap := s.heap.push { cls := .type "list", data := .seq its.toArray }, toks := t' } :=
  I.laid (fun _ _ q => Heap.get?_push_of_some _ q) (Nat.le_refl _) ⟨hz, its, 0, hv, Heap.get?_push_size _ rfl⟩
theorem Inv.fresh (I : Inv X pins σ H s) : H s.heap.objs.size = none := I.hok.fresh (Nat.le_refl _)
theorem Inv.lstM (I : Inv X pins σ H s) (hH : H l = some (.lst xs)) : xs.length ≤ sizeLine ∧ ∃ (its : List Value) (n : Nat), Vals xs its ∧ xs.length = its.length ∧ s.heap.get? l = some { cls := .type "list", data := .seq its.toArray n } := by
  obtain ⟨z, its, n, r, e⟩ := I.hok l _ hH
  exact ⟨z, its, n, r, r.length, e⟩
end
section
variable {X : Cx}
noncomputable def rAppend : V → List V → Hp → VK → Prop := fun x vs H Q => ∃ l xs y, x = .ref l ∧ vs = [y] ∧ H l = some (.lst xs) ∧ xs.length < sizeLine ∧ Q .non (upd H l (.lst (xs ++ [y])))
theorem mt_append : MtM X "list.append" rAppend := by
  intro pins s σ H x vs v us Q I rx rv h
  obtain ⟨l, xs, y, rfl, rfl, hH, hz, q⟩ := h
  cases rx
  obtain ⟨u, rfl, ru⟩ := rv.one
  obtain ⟨z, its, n, r, hl, e⟩ := I.lstM hH
  refine call_meets F.slot_list_append ⟨_, e, rfl⟩ F.entry_list_append (F.args_list_append_2 _ _) (PySem.list_append l its.toArray n u (by rw [List.size_toArray]; omega)) ⟨e, ?_⟩
  refine ⟨.non, _, I.lset (its' := its ++ [u]) hH e (by simp) (r.append (.cons ru .nil)) ?_, rfl, q⟩
  rw [List.length_append, List.length_singleton]
  omega
noncomputable def rClear : V → List V → Hp → VK → Prop := fun x vs H Q => ∃ l xs, x = .ref l ∧ vs = [] ∧ H l = some (.lst xs) ∧ Q .non (upd H l (.lst []))
theorem mt_clear : MtM X "list.clear" rClear := by
  intro pins s σ H x vs v us Q I rx rv h
  obtain ⟨l, xs, rfl, rfl, hH, q⟩ := h
  cases rx
  have hus := rv.zero
  subst hus
  obtain ⟨z, its, n, r, hl, e⟩ := I.lstM hH
  refine call_meets F.slot_list_clear ⟨_, e, rfl⟩ F.entry_list_clear (F.args_list_clear_1 _) (AutoSeq1.list_clear_list_0 l its.toArray n (by rw [List.size_toArray]; omega)) ⟨e, ?_⟩
  exact ⟨.non, _, I.lset (its' := []) (ys := []) hH e rfl .nil (Nat.zero_le _), rfl, q⟩
noncomputable def rCat : R2 := fun x y H Q => ∃ l b xs zs, x = .ref l ∧ y = .ref b ∧ H l = some (.lst xs) ∧ H b = some (.lst zs) ∧ xs.length + zs.length ≤ sizeLine ∧ ∀ p, H p = none → Q (.ref p) (upd H p (.lst (xs ++ zs)))
theorem op_cat : OpR X (binaryOp .Add) rCat := by
  intro pins s σ H x y v u Q I rx ry h
  obtain ⟨l, b, xs, zs, rfl, rfl, hH, hB, hz, q⟩ := h
  cases rx
  cases ry
  obtain ⟨z, its, n, r, hl, e⟩ := I.lstM hH
  obtain ⟨z2, its2, n2, r2, hl2, e2⟩ := I.lstM hB
  refine PySem.P.add_list e e2 ?_ (by rw [List.size_toArray, List.size_toArray]; omega)
  have ea : its.toArray ++ its2.toArray = (its ++ its2).toArray := by simp
  rw [ea]
  exact ⟨.ref _, _, I.lnew (t' := s.toks) (r.append r2) (by rw [List.length_append]; omega), rfl, q _ I.fresh⟩
end
section
variable {prog : Program} {w : World} {A : Around} {E : Value → Shared → Prop} {s : Shared}
end
section
variable {X : Cx}
end
end L2
namespace L2
open PySem PySem.Spec PyProof.Rows
section
variable {κ : Type} [DecidableEq κ]
end
section
variable {P : Program} {w : World} {H : Hp} {h : Heap} {a : Addr}
end
section
variable {X : Cx} {pins : List (Addr × Obj)} {σ : St} {H : Hp} {s : Shared} {a : Addr} {y v : V} {u r : Value} {o : Option V} {A : Around} {E : Value → Shared → Prop}
theorem Inv.big (I : Inv X pins σ H s) : sysModules < s.heap.objs.size := by
  have h : mainGlobals < s.heap.objs.size := (I.mod.glob.keeps I.bk).lt
  exact Nat.lt_trans (by decide) h
end
section
variable {X : Cx} {pins : List (Addr × Obj)} {σ : St} {H : Hp} {s : Shared} {a : Addr} {kvs : List (Key × V)} {k : Key} {u : Value} {A : Around} {E : Value → Shared → Prop}
end
section
variable {X : Cx} {o i e value : Expr} {pos pos' tpos : Pos} {td ty tv : TE}
end
theorem dk_empty {P : Program} {w : World} {H : Hp} (h : Heap) (hb : sysModules < h.objs.size) : ObjOk P w H (h.push { cls := .type "dict", data := .dict #[] }) h.objs.size (.dK []) :=
  ⟨Nat.zero_le _, beq_eq_false_iff_ne.mpr (Ne.symm (Nat.ne_of_lt hb)), [], .nil, Heap.DictOf.new h⟩
noncomputable def tDNewK : TE := fun _ H Q => ∀ p, H p = none → Q (.ref p) (upd H p (.dK []))
section
variable {X : Cx} {pos : Pos}
theorem pe_dnewK : PE X (.Dict [] [] pos) tDNewK := fun pins s σ H Q I h =>
  wpAny_Dict_empty ⟨.ref s.heap.objs.size, _, I.laid (a := s.heap.objs.size) (o := .dK []) (t' := s.toks) (fun _ _ q => Heap.get?_push_of_some _ q) (Nat.le_refl _) (dk_empty s.heap I.big), rfl, h _ (I.hok.fresh (Nat.le_refl _))⟩
end
section
variable {X : Cx} {pins : List (Addr × Obj)} {σ : St} {H : Hp} {s : Shared} {a : Addr} {y d : V} {u r : Value} {o : Option V} {A : Around} {E : Value → Shared → Prop}
end
section
variable {X : Cx} {o e f : Expr} {apos cpos : Pos} {td ty tx : TE}
end
section
variable {X : Cx} {pins : List (Addr × Obj)} {σ : St} {H : Hp} {s : Shared} {a : Addr} {kvs : List (Key × V)} {A : Around} {E : Value → Shared → Prop}
end
section
variable {X : Cx} {pins : List (Addr × Obj)} {σ : St} {H : Hp} {s : Shared} {a : Addr} {y : V} {u : Value} {A : Around} {E : Value → Shared → Prop}
end
end L2
namespace Att
open PySem PySem.W PySem.Calls PyProof.Rows
theorem ints_of_wellAll {P : Params} {h : Heap} : ∀ (ns : List Int) (vs : List Value), WellAll P h vs (ns.map WData.int) → IntsAre vs ns := by
  intro ns
  induction ns with
  | nil =>
    intro vs w
    rw [List.map_nil] at w
    cases w
    exact .nil
  | cons n ns ih =>
    intro vs w
    rw [List.map_cons] at w
    cases w with
    | cons a b =>
      cases a
      exact .cons _ _ (ih _ b)
theorem script_of {l : OpenLaw} {n : Nat} (hn : l.most = some n) {P : Params} {h : Heap} {args : List WData} {vals : List Value}
    (hpre : l.row.toRowW.claim.pre args = true) (hwl : WellAll P h vals args) :
    ∃ a vs ns, vals = [Value.ref a] ∧ args = [WData.list (ns.map WData.int)] ∧ h.get? a = some { cls := .type "list", data := .seq vs.toArray } ∧ IntsAre vs ns ∧ ns.length ≤ n := by
  have hsh : WShape.hasAll [] args [.list .int] = true := (pre_splitW hpre).1
  have hc : l.pre.holds [] { args := args } = true := (pre_splitW hpre).2
  obtain ⟨d, r, rfl, h1, h2⟩ := hasAllW_cons hsh
  obtain rfl := hasAllW_nil h2
  obtain ⟨xs, rfl, h3⟩ := hasW_list h1
  obtain ⟨ns, rfl⟩ := items_int h3
  have hlen : ns.length ≤ n := by
    unfold OpenLaw.pre at hc
    have h4 : (WTm.not (.lt (.lit (.int (n : Int))) (.len (.arg 0)))).holds [] { args := [.list (ns.map .int)] } = true := by
      have h4 := (holds_andW hc).1
      rw [hn] at h4
      exact h4
    have h5 := condW_of h4 (w_not (w_lt w_lit (w_len_list (w_arg rfl))))
    rw [List.length_map] at h5
    refine Nat.le_of_not_lt fun q => ?_
    have q' : (n : Int) < ((ns.length : Nat) : Int) := by omega
    first
      | (rw [decide_eq_true q'] at h5; exact absurd h5 (by decide))
      | (simp at h5; omega)
  cases hwl with
  | cons w1 w2 =>
    cases w2
    cases w1 with
    | list ho hall => exact ⟨_, _, ns, rfl, rfl, ho, ints_of_wellAll ns _ hall, hlen⟩
theorem post_true (l : OpenLaw) (args : List WData) : l.row.toRowW.claim.post args (.bool true) args = true :=
  postW_of (r := l.row.toRowW) (X := (true == true))
    (show WShape.has [] (.bool true) .bool = true by first | rfl | decide | simp [WShape.has, WShape.arms, WShape.armsAll])
    (show (WTm.eq .res (.lit (.bool true))).value [] { args := args, res := some (.bool true), after := args } = some (.bool (true == true)) from w_eq_bool (w_res rfl) w_lit) rfl
theorem attach_call {l : OpenLaw} {n : Nat} {q : Program} {loose : List Str} {XP : (Str → Option Value) → Heap → Prop} {YP : World → Heap → Prop} {d : DefRec}
    (hn : l.most = some n) (hdf : d.params.defaults = [])
    (call : ∀ (w : World) (s₀ s₁ : Shared) (mg mb : Str → Option Value) (fa : Addr) (o : Obj) (pm cd doc : Value) (a : Addr) (vs : List Value) (ns : List Int),
      Ground q loose [] XP w s₀ mg mb s₁.heap → YP w s₁.heap →
      s₁.heap.get? fa = some o → o.data = .func (docDef d.name d.params d.body d.scope pm cd doc) → s₁.heap.CodeRec cd d.name → mg d.name = some (.ref fa) →
      s₁.heap.get? a = some { cls := .type "list", data := .seq vs.toArray } → IntsAre vs ns → ns.length ≤ n → s₁.gens = #[] →
      codeAny (model l.prog w) callerA (.call (.ref fa) ⟨[.ref a], []⟩) (fun r s' => r = .ok (.ret (.bool true)) ∧ OldK s₁.heap s'.heap ∧ s'.os = s₁.os ∧ AllBare s'.gens) s₁) :
    WalkO q loose XP YP l.row.toRowW d [] (fun f vs => PySem.call f vs) := by
  intro w s₀ s₁ mg mb G Y fa o pm cd doc dV kV ho hd hcd hD hmg hg args vals as hpre hlay hrd hwl hlo
  obtain rfl : dV = .none := Dflts.none hD hdf
  obtain rfl : kV = .none := Dflts.noKw hD
  obtain ⟨a, vs, ns, rfl, rfl, hobj, hints, hlen⟩ := script_of hn hpre hwl
  refine enter_call (codeAny_mono (call w s₀ s₁ mg mb fa o pm cd doc a vs ns G Y ho (fd_plain hd) hcd hmg hobj hints hlen hg) fun r s' hq => ?_)
  obtain ⟨rfl, h2, h3, h4⟩ := hq
  exact ⟨.inl ⟨.bool true, .bool true, [], rfl, fun _ => rfl, .bool true, post_true l _, fun _ => ⟨List.Pairwise.nil, fun _ hm => (nomatch hm)⟩⟩, h2, h3, h4⟩
section
variable {prog : Program} {w : World} {A : Around} {E : Value → Shared → Prop} {s : Shared} {K : Frag}
end
end Att
namespace L2
open PySem PySem.Spec PyProof.Rows
theorem vals_ints {vs : List Value} {ns : List Int} (h : IntsAre vs ns) : Vals (ns.map V.int) vs := by
  induction h with
  | nil => exact .nil
  | cons n t _ ih => exact .cons ⟨t, rfl⟩ ih
noncomputable def Only (H : Hp) : Prop := ∀ b, H b = none ∨ ∃ o xs, H b = some (.frz o (.lst xs))
theorem law_call {P : Program} {w : World} {K : PySem.W.Frag} {mg mb : Str → Option Value} {CX : CXT} {k : Nat} {fa a : Addr} {fd : FuncData} {x : Str} {sp : Sp} {s₁ : Shared} {vs : List Value} {ns : List Int}
    (KX : K.In s₁.heap) (hns : s₁.heap.Ns mainGlobals mg) (hb : s₁.heap.Ns builtinsNs mb) (hbb : ∀ x : Str, x ≠ "__name__" → mb x = bootBuiltins x) (hlim : s₁.heap.NoLimit) (hg : s₁.gens = #[])
    (ha : s₁.heap.get? a = some { cls := .type "list", data := .seq vs.toArray }) (hi : IntsAre vs ns) (hl : ns.length ≤ sizeLine) (hr : Room k callerA)
    (F : ∀ base : Heap, K.In base → base.Ns mainGlobals mg → FnOk P w K mg base CX k fa fd [x] sp) (hbind : ∀ (s : Shared) (u : Value), BindsTo s fd ⟨[u], []⟩ [(x, u)])
    (hsp : ∀ H : Hp, Only H → SqL K H a (ns.map V.int) → sp [.ref a] H (fun v _ => v = .bl true) fun _ _ _ => False)
    (hCX : ∀ H e s', CX [] H s₁ (fun _ _ _ => False) e s' → False) :
    codeAny (model P w) callerA (.call (.ref fa) ⟨[.ref a], []⟩) (fun r s' => r = .ok (.ret (.bool true)) ∧ OldK s₁.heap s'.heap ∧ s'.os = s₁.os ∧ AllBare s'.gens) s₁ := by
  have rv := vals_ints hi
  have lenV := hi.length
  have core : ∀ H : Hp, Only H → SqL K H a (ns.map V.int) → HOk P w H s₁.heap → (∀ b, H b ≠ none → b = a) → (H a ≠ none → K.lookup a = none) →
      codeAny (model P w) callerA (.call (.ref fa) ⟨[.ref a], []⟩) (fun r s' => r = .ok (.ret (.bool true)) ∧ OldK s₁.heap s'.heap ∧ s'.os = s₁.os ∧ AllBare s'.gens) s₁ := by
    intro H hO hS hok hA hK
    have base_of : ∀ {b : Addr} {o : Obj}, s₁.heap.get? b = some o → H b = none → (hidT s₁.heap H).get? b = some o := fun e n => hidT_get e n
    have noA : ∀ {b : Addr} {o : Obj} {es : Array DictEntry} {ep : Nat}, s₁.heap.get? b = some o → o.data = .dict es ep → H b = none := fun {b o es ep} e d => by
      cases q : H b with
      | none => rfl
      | some u =>
        have e' : b = a := hA b (by rw [q]; simp)
        subst e'
        rw [ha] at e; cases e
        have d' : Data.seq vs.toArray _ = Data.dict es ep := d
        cases d'
    have nsK : ∀ {b : Addr} {m : Str → Option Value}, s₁.heap.Ns b m → (hidT s₁.heap H).Ns b m := fun {b m} ⟨o, es, ep, e, d, r⟩ => ⟨o, es, ep, base_of e (noA e d), d, r⟩
    have hKb : K.In (hidT s₁.heap H) := fun b o e => base_of (KX b o e) (by
      cases q : H b with
      | none => rfl
      | some u =>
        have e' : b = a := hA b (by rw [q]; simp)
        subst e'
        rw [hK (by rw [q]; simp)] at e; cases e)
    have hM : Mod K mg (hidT s₁.heap H) := ⟨hKb, nsK hns, ⟨mb, nsK hb, hbb⟩, let ⟨mc, h1, h2⟩ := hlim; ⟨mc, nsK h1, h2⟩⟩
    have e0 : Env0 P w K mg (hidT s₁.heap H) callerA [] s₁ H := ⟨rfl, hM, fun b o e => of_hidT e, Nat.le_of_eq (hidT_size _ _), trivial, fun b hb => absurd (show b ∈ ([] : List Addr) from hb) (by simp), hok, .of_eq hg⟩
    refine codeAny_mono ((F _ hKb (nsK hns)).run callerA [] s₁ H ⟨[.ref a], []⟩ [.ref a] [.ref a] _ _ hr e0 (hbind s₁ (.ref a)) (.cons rfl .nil) (hsp H hO hS)) fun r s' h => ?_
    cases r with
    | error e => exact (hCX H e s' h).elim
    | ok fl =>
      cases fl with
      | next => exact False.elim h
      | brk => exact False.elim h
      | cont => exact False.elim h
      | ret u =>
        obtain ⟨v, H', os, bare, un, hok', r', q⟩ := h
        have q' : v = .bl true := q
        subst q'
        obtain rfl : u = Value.bool true := r'
        refine ⟨rfl, OldK.of_keep fun b o e => ?_, os, bare⟩
        cases q : H b with
        | none => exact un.keep b o e q (by intro z; exact absurd (show b ∈ ([] : List Addr) from z) (by simp)) (by simp)
        | some u =>
          rcases hO b with z | ⟨ob, xs, z⟩
          · rw [q] at z; cases z
          · have z2 := un.frzs b ob _ z
            obtain ⟨e1, _⟩ := hok b _ z
            obtain ⟨e2, _⟩ := hok' b _ z2
            rw [e] at e1; cases e1
            exact e2
  cases hk : K.lookup a with
  | some o =>
    have e := KX a o hk
    rw [ha] at e
    cases e
    refine core (fun _ => none) (fun _ => .inl rfl) (.inr ⟨_, vs.toArray, _, hk, rfl, rfl, rfl, by rw [List.size_toArray, lenV]; exact hl, by simpa using rv⟩) (fun b u z => by have z' : (none : Option HO) = some u := z; cases z') (fun b z => absurd rfl z) fun z => absurd rfl z
  | none =>
    refine core (fun b => if b = a then some (.frz { cls := .type "list", data := .seq vs.toArray } (.lst (ns.map V.int))) else none) (fun b => ?_) (.inl (.inr ⟨{ cls := .type "list", data := .seq vs.toArray }, if_pos rfl⟩)) (fun b u z => ?_) (fun b z => ?_) fun _ => hk
    · by_cases hb : b = a
      · exact .inr ⟨_, _, if_pos hb⟩
      · exact .inl (if_neg hb)
    · by_cases hb : b = a
      · have z' := (if_pos hb).symm.trans z
        cases z'
        subst hb
        exact ⟨ha, by rw [List.length_map]; exact hl, vs, _, rv, ha⟩
      · have z' := (if_neg hb).symm.trans z
        cases z'
    · by_cases hb : b = a
      · exact hb
      · exact absurd (if_neg hb) z
end L2
namespace L2
open PySem PySem.Spec PyProof.Rows
theorem walk_of {l : PySem.W.OpenLaw} {n k : Nat} {q : Program} {loose : List Str} {XP : (Str → Option Value) → Heap → Prop} {YP : World → Heap → Prop} {d : DefRec} {K : Params → PySem.W.Frag} {CX : World → CXT} {sp : World → Sp} {x : Str}
    (hn : l.most = some n) (hn2 : n ≤ sizeLine) (hdf : d.params.defaults = []) (hr : Room k callerA)
    (hY : ∀ (w : World) (h : Heap), YP w h → (K w.params).In h)
    (F : ∀ (w : World) (mg : Str → Option Value) (fa : Addr) (h : Heap), (K w.params).In h → h.Ns mainGlobals mg → mg d.name = some (.ref fa) →
      ∃ fd : FuncData, (∀ (s : Shared) (u : Value), BindsTo s fd ⟨[u], []⟩ [(x, u)]) ∧
        ∀ base : Heap, (K w.params).In base → base.Ns mainGlobals mg → FnOk l.prog w (K w.params) mg base (CX w) k fa fd [x] (sp w))
    (hsp : ∀ (w : World) (H : Hp) (a : Addr) (ns : List Int), ns.length ≤ n → Only H → SqL (K w.params) H a (ns.map V.int) → sp w [.ref a] H (fun v _ => v = .bl true) fun _ _ _ => False)
    (hCX : ∀ (w : World) (H : Hp) (s : Shared) (e : Value) (s' : Shared), CX w [] H s (fun _ _ _ => False) e s' → False) :
    PySem.W.WalkO q loose XP YP l.row.toRowW d [] (fun f vs => PySem.call f vs) := by
  refine Att.attach_call hn hdf fun w s₀ s₁ mg mb fa o pm cd doc a vs ns G Y ho hd hcd hmg hobj hints hlen hg => ?_
  have KX := hY w _ Y
  obtain ⟨fd, hb, hF⟩ := F w mg fa _ KX G.T.g hmg
  exact law_call KX G.T.g G.T.b G.T.builtins G.T.nolimit hg hobj hints (Nat.le_trans hlen hn2) hr hF hb (fun H hO hS => hsp w H a ns hlen hO hS) fun H e s' => hCX w H s₁ e s'
end L2
namespace L2
open PySem PySem.Spec PyProof.Rows
noncomputable def inClass (s : Stmt) (j : Nat) : Stmt := match s with
  | .ClassDef _ _ _ body _ _ _ _ _ _ _ => body.getD j (.Pass ⟨0, 0, 0, 0⟩)
  | _ => .Pass ⟨0, 0, 0, 0⟩
noncomputable def defArgs (s : Stmt) : Arguments := match s with
  | .FunctionDef _ a _ _ _ _ _ _ _ _ => a
  | _ => { posonlyargs := [], args := [], vararg := none, kwonlyargs := [], kw_defaults := [], kwarg := none, defaults := [] }
noncomputable def defBody (s : Stmt) : List Stmt := match s with
  | .FunctionDef _ _ b _ _ _ _ _ _ _ => b
  | _ => []
noncomputable def defScope (s : Stmt) : Scope := match s with
  | .FunctionDef _ _ _ _ _ _ sc _ _ _ => sc
  | _ => { kind := .function, names := [], isGenerator := false, isCoroutine := false }
noncomputable abbrev CX0 : CXT := fun _ _ _ _ _ _ => False
noncomputable abbrev E0 : XK := fun _ _ _ => False
theorem pass0 {X : Cx} : Passes CX0 X E0 := fun _ _ _ _ _ _ _ h => h.elim
structure Fun (K : PySem.W.Frag) (x qual : Str) (st : Stmt) (f : Addr) (fd : FuncData) : Prop where
  ex : ∃ (oc : Value) (od : Option Addr) (kV doc pm : Value) (an : Option Addr) (cdv ct : Value) (osl : Array (Option Value)),
    fd = PySem.W.fnOf x qual (defArgs st) (defBody st) (defScope st) .none kV doc pm an cdv ct ∧ K.lookup f = some ⟨oc, od, .func fd, osl⟩ ∧ PySem.W.codeIn K cdv qual = true
  kp : PySem.W.keepIn K (.ref f) = true
section
variable {P : Program} {w : World} {K : PySem.W.Frag} {mg : Str → Option Value} {base : Heap}
theorem Fun.ok {x qual : Str} {st : Stmt} {f : Addr} {fd : FuncData} {N ps : List Str} {k : Nat} {sp : Sp} (F : Fun K x qual st f fd) (S : FnScope N ps (defScope st)) (len : ∀ vs H Q E, sp vs H Q E → vs.length = ps.length)
    (hbody : ∀ (cdv : Value) (A : Around) (outer : List Env) (s : Shared) (H : Hp) (vs : List V) (Q : VK) (E : XK), Room k (A.deeper (envOfC qual (defScope st) s.heap.objs.size f cdv)) → sp vs H Q E →
      ∃ t, PSs (cxOf CX0 P w K mg base N qual (defScope st) f cdv A outer s H E).nox (defBody st) t ∧ t { nx := fun _ H' => Q .non H', rt := Q } (start N vs) H) : FnOk P w K mg base CX0 (k + 1) f fd ps sp := by
  obtain ⟨oc, od, kV, doc, pm, an, cdv, ct, osl, rfl, lk, hcd⟩ := F.ex
  refine fn_of lk hcd S len fun A outer s H vs Q E hr hsp => ?_
  obtain ⟨t, h, q⟩ := hbody cdv A outer s H vs Q E hr hsp
  exact ⟨t, h.nox, q⟩
theorem Fun.binds {x qual : Str} {st : Stmt} {f : Addr} {fd : FuncData} {ps : List Str} (F : Fun K x qual st f fd)
    (h : ∀ (kV doc pm : Value) (an : Option Addr) (cdv ct : Value) (us : List Value), us.length = ps.length → bindArgs (PySem.W.fnOf x qual (defArgs st) (defBody st) (defScope st) .none kV doc pm an cdv ct) ⟨us, []⟩ = pure (ps.zip us)) : Binds K fd ps [] := by
  obtain ⟨oc, od, kV, doc, pm, an, cdv, ct, osl, rfl, lk, hcd⟩ := F.ex
  exact .all (h kV doc pm an cdv ct)
theorem fun_mk {x qual : Str} {st : Stmt} {f : Addr} {oc : Value} {od an : Option Addr} {osl : Array (Option Value)} {kV doc pm cdv ct : Value} (l : K.lookup f = some ⟨oc, od, .func (PySem.W.fnOf x qual (defArgs st) (defBody st) (defScope st) .none kV doc pm an cdv ct), osl⟩)
    (c : PySem.W.codeIn K cdv qual = true) (k : PySem.W.keepIn K (.ref f) = true) : Fun K x qual st f (PySem.W.fnOf x qual (defArgs st) (defBody st) (defScope st) .none kV doc pm an cdv ct) := ⟨⟨oc, od, kV, doc, pm, an, cdv, ct, osl, rfl, l, c⟩, k⟩
end
theorem small1000 {n : Nat} (h : n ≤ 1000) : n < sizeLine := Nat.lt_of_le_of_lt h (by decide)
section
variable {X : Cx}
theorem pv (i : Nat) {x : Str} {pos : Pos} (hN : X.N[i]? = some x := by rfl) (hv : Vis X.env.scope x := by first | exact Or.inl rfl | exact Or.inr (Or.inl rfl) | exact Or.inr (Or.inr rfl)) (hd : (x == ("__debug__" : Str)) = false := by decide)
    (hcd : (x == ("__classdict__" : Str)) = false := by decide) : PE X (.Name x pos) (tVar i) := pe_var hN hv hd hcd
end
theorem iteF {A B : Prop} (h : B) : if false = true then A else B := by
  rw [if_neg Bool.false_ne_true]
  exact h
theorem iteT {A B : Prop} (h : A) : if true = true then A else B := by
  rw [if_pos rfl]
  exact h
theorem ite2 {c A B : Prop} [Decidable c] (h1 : c → A) (h2 : ¬ c → B) : if c then A else B := by
  by_cases h : c
  · rw [if_pos h]
    exact h1 h
  · rw [if_neg h]
    exact h2 h
noncomputable def Same (H H' : Hp) : Prop := ∀ b o, H b = some o → H' b = some o
theorem Same.seq {K : PySem.W.Frag} {H H' : Hp} {a : Addr} {xs : List V} (e : Same H H') (h : SqL K H a xs) : SqL K H' a xs := by
  rcases h with (h | ⟨o, h⟩) | h
  · exact .inl (.inl (e _ _ h))
  · exact .inl (.inr ⟨o, e _ _ h⟩)
  · exact .inr h
end L2
set_option Elab.async false
set_option linter.all false
set_option maxRecDepth 100000
set_option maxHeartbeats 4000000
namespace L2
open PySem PySem.Spec PyProof.Rows
noncomputable def clF (env : Env) : List (Str × NameKind) → List (Str × Addr) → List (Str × Addr)
  | [], cs => cs
  | (n, k) :: r, cs => clF env r (if k == NameKind.free then (n, (env.cells.lookup n).getD 0) :: cs else cs)
theorem clF_run (env : Env) : ∀ (l : List (Str × NameKind)) (cs : List (Str × Addr)), (∀ n, (n, NameKind.free) ∈ l → (env.cells.lookup n).isSome = true) →
    (forIn l cs fun x r => (match x with
      | (name, kind) => if (kind == NameKind.free) = true then (do let c ← cellOf env name; pure (ForInStep.yield ((name, c) :: r))) else pure (ForInStep.yield r) : Sem (ForInStep (List (Str × Addr))))) = pure (clF env l cs) := by
  intro l
  induction l with
  | nil => intro cs _; rfl
  | cons x l ih =>
    intro cs h
    obtain ⟨n, k⟩ := x
    rw [List.forIn_cons]
    by_cases hk : k = NameKind.free
    · subst hk
      have h1 := h n List.mem_cons_self
      obtain ⟨c, hc⟩ := Option.isSome_iff_exists.mp h1
      simp only [beq_self_eq_true, if_true, clF, hc, Option.getD_some, cellOf, pure_bind]
      exact ih _ fun m hm => h m (List.mem_cons_of_mem _ hm)
    · have hb : (k == NameKind.free) = false := by simpa using hk
      simp only [hb, Bool.false_eq_true, if_false, clF, pure_bind]
      exact ih _ fun m hm => h m (List.mem_cons_of_mem _ hm)
theorem closureFor_clF {scope : Scope} {env : Env} (h : ∀ n, (n, NameKind.free) ∈ scope.names → (env.cells.lookup n).isSome = true) :
    closureFor scope env = pure (clF env scope.names []) := by
  have e := clF_run env scope.names [] h
  unfold closureFor
  simp only [bind_pure] at e ⊢
  exact e
theorem clF_sub (env : Env) : ∀ (l : List (Str × NameKind)) (cs : List (Str × Addr)), (∀ n, (n, NameKind.free) ∈ l → (env.cells.lookup n).isSome = true) →
    (∀ y c, cs.lookup y = some c → env.cells.lookup y = some c) → ∀ y c, (clF env l cs).lookup y = some c → env.cells.lookup y = some c := by
  intro l
  induction l with
  | nil => intro cs _ h; exact h
  | cons x l ih =>
    intro cs h hc
    obtain ⟨n, k⟩ := x
    refine ih _ (fun m hm => h m (List.mem_cons_of_mem _ hm)) ?_
    by_cases hk : k = NameKind.free
    · subst hk
      obtain ⟨c, e⟩ := Option.isSome_iff_exists.mp (h n List.mem_cons_self)
      simp only [beq_self_eq_true, if_true, e, Option.getD_some]
      intro y c' q
      rw [List.lookup_cons] at q
      cases hy : y == n with
      | true =>
        rw [hy] at q
        have ey : y = n := by simpa using hy
        cases q
        rw [ey]; exact e
      | false =>
        rw [hy] at q
        exact hc y c' q
    · have hb : (k == NameKind.free) = false := by simpa using hk
      simp only [hb, Bool.false_eq_true, if_false]
      exact hc
theorem clF_has (env : Env) : ∀ (l : List (Str × NameKind)) (cs : List (Str × Addr)) (y : Str), ((y, NameKind.free) ∈ l ∨ (cs.lookup y).isSome = true) → ((clF env l cs).lookup y).isSome = true := by
  intro l
  induction l with
  | nil => intro cs y h; exact h.elim (fun z => by cases z) id
  | cons x l ih =>
    intro cs y h
    obtain ⟨n, k⟩ := x
    refine ih _ y ?_
    rcases h with h | h
    · rcases List.mem_cons.mp h with e | e
      · cases e
        right
        simp
      · exact .inl e
    · right
      by_cases hk : k = NameKind.free
      · subst hk
        simp only [beq_self_eq_true, if_true, List.lookup_cons]
        cases hy : y == n <;> simp [h]
      · have hb : (k == NameKind.free) = false := by simpa using hk
        simp only [hb, Bool.false_eq_true, if_false]
        exact h
theorem relabel_kind {scope : Scope} {env : Env} : ∀ (l : List (Str × NameKind)) (x : Str) (k : NameKind),
    (l.map fun (n, k) => if (k == NameKind.free && env.scope.kind == .function && env.kindOf n == some .cell) then (n, NameKind.cell) else (n, k)).lookup x = some k → k = .cell ∨ k = .free →
    (∀ y ∈ l, y.2 ≠ .cell) → (x, NameKind.free) ∈ l
  | [], x, k, h, _, _ => by simp at h
  | (n, k') :: r, x, k, h, hk, hc => by
    rw [List.map_cons, List.lookup_cons] at h
    have hn : (if (k' == NameKind.free && env.scope.kind == .function && env.kindOf n == some .cell) = true then (n, NameKind.cell) else (n, k')).1 = n := by split <;> rfl
    simp only [hn] at h
    cases hx : x == n with
    | true =>
      rw [hx] at h
      have ex : x = n := by simpa using hx
      subst ex
      simp only [Option.some.injEq] at h
      split at h
      · rename_i q
        simp only [Bool.and_eq_true, beq_iff_eq] at q
        rw [q.1.1]; exact List.mem_cons_self
      · have h' : k' = k := h
        rcases hk with z | z
        · exact absurd (h'.trans z) (hc _ List.mem_cons_self)
        · rw [h', z]; exact List.mem_cons_self
    | false =>
      rw [hx] at h
      exact List.mem_cons_of_mem _ (relabel_kind (scope := scope) r x k h hk fun y hy => hc y (List.mem_cons_of_mem _ hy))
noncomputable def cxC (X : Cx) (xs : List Str) (ix : List Nat) (scope : Scope) (C : Addr) (fp : List Addr) (s : Shared) (H : Hp) : Cx :=
  { X with N := xs ++ ix.map (fun i => X.N.getD i ""), s₀ := s, H₀ := H, env := compEnvC scope (clF X.env scope.names []) C X.env,
           outer := X.stack, stack := X.stack, ex := fp, fn := fun _ => false, pn := [], xe := fun _ _ => False }
noncomputable def stC (xs : List Str) (ix : List Nat) (σ : St) : St := xs.map (fun _ => none) ++ ix.map (fun i => (σ[i]?).join)
structure CompScope (X : Cx) (xs : List Str) (ix : List Nat) (scope : Scope) : Prop where
  kind : scope.kind = .function
  nocell : ∀ y ∈ scope.names, y.2 ≠ .cell
  loc : ∀ y ∈ scope.names, y.2 = .local → scope.names.lookup y.1 = some .local
  fre : ∀ n, (n, NameKind.free) ∈ scope.names → X.env.kindOf n = some .cell ∨ X.env.kindOf n = some .free
  own : ∀ x ∈ xs, scope.names.lookup x = some .local
  nd : (xs ++ ix.map (fun i => X.N.getD i "")).Nodup
  inN : ∀ i ∈ ix, i < X.N.length
  frx : ∀ i ∈ ix, scope.names.lookup (X.N.getD i "") = some .free
theorem relabel_free {scope : Scope} {env : Env} : ∀ (l : List (Str × NameKind)) (x : Str), l.lookup x = some .free →
    (l.map fun (n, k) => if (k == NameKind.free && env.scope.kind == .function && env.kindOf n == some .cell) then (n, NameKind.cell) else (n, k)).lookup x = some .cell ∨
    (l.map fun (n, k) => if (k == NameKind.free && env.scope.kind == .function && env.kindOf n == some .cell) then (n, NameKind.cell) else (n, k)).lookup x = some .free
  | [], x, h => by simp at h
  | (n, k') :: r, x, h => by
    rw [List.lookup_cons] at h
    rw [List.map_cons, List.lookup_cons]
    have hn : (if (k' == NameKind.free && env.scope.kind == .function && env.kindOf n == some .cell) = true then (n, NameKind.cell) else (n, k')).1 = n := by split <;> rfl
    simp only [hn]
    cases hx : x == n with
    | true =>
      rw [hx] at h
      have h' : k' = .free := Option.some.inj h
      subst h'
      by_cases hc : (NameKind.free == NameKind.free && env.scope.kind == .function && env.kindOf n == some .cell) = true
      · left; simp only [if_pos hc]
      · right; simp only [if_neg hc]
    | false =>
      rw [hx] at h
      exact relabel_free (scope := scope) r x h
theorem block_start {X : Cx} {xs : List Str} {ix : List Nat} {scope : Scope} {pins : List (Addr × Obj)} {σ : St} {H : Hp} {s s1 : Shared} {fp : List Addr} {h1 : Heap} {tk : Nat}
    (S : CompScope X xs ix scope) (I : Inv X pins σ H s) (hf : ∀ b ∈ fp, FpOk X pins H b) (hfo : ∀ b ∈ fp, ∃ o, s.heap.get? b = some o)
    (hns : h1.Ns s.heap.objs.size (fun _ => none)) (hk : ∀ b o, s.heap.get? b = some o → h1.get? b = some o) (e1 : s1 = { s with heap := h1, toks := tk }) :
    Inv (cxC X xs ix scope s.heap.objs.size fp s H) [] (stC xs ix σ) H s1 := by
  subst e1
  have hcl : ∀ n, (n, NameKind.free) ∈ scope.names → (X.env.cells.lookup n).isSome = true := fun n hn => by
    obtain ⟨c, e⟩ := I.ok.has n (S.fre n hn)
    rw [e]; rfl
  have sub := clF_sub X.env scope.names [] hcl (fun y c q => by simp at q)
  have has := fun y hy => clF_has X.env scope.names [] y (.inl hy)
  have fpl : ∀ b ∈ fp, b ∉ frs X.stack := fun b hb z => by
    obtain ⟨_, f1, f2, _⟩ := hf b hb
    rcases List.mem_cons.mp (I.stkSub b z) with q | q
    · exact f1 q
    · exact f2 q
  have kindR : ∀ x k, (cxC X xs ix scope s.heap.objs.size fp s H).env.kindOf x = some k → k = .cell ∨ k = .free → (x, NameKind.free) ∈ scope.names := fun x k e hk' =>
    relabel_kind (scope := scope) (env := X.env) scope.names x k e hk' S.nocell
  refine ⟨⟨I.ok.mod, S.kind, I.ok.glob, I.ok.blt, Nat.le_refl _, fun x y c a b => ?_, fun x hx => ?_, fun x c z => (by cases z), I.ok.hd, I.ok.frames, .inl rfl, fun b hb => ?_, I.bs, Nat.le_trans I.ok.bsz I.sz, fun b o e hb => ?_, fpl, I.stack, I.stkFree⟩,
    rfl, I.bare, Un.kept hk, ⟨_, hns, fun i x v e1 e2 e3 => ?_⟩, fun x c e => ?_, I.hok.fresh (Nat.le_refl _), fun x c e => I.freeC x c (sub x c e), fun p hp => absurd (show p ∈ ([] : List (Addr × Obj)) from hp) (by simp), I.hok.kept hk, ?_⟩
  · exact I.ok.inj x y c (sub x c a) (sub y c b)
  · have hm : (x, NameKind.free) ∈ scope.names := hx.elim (fun z => kindR x _ z (.inl rfl)) fun z => kindR x _ z (.inr rfl)
    exact Option.isSome_iff_exists.mp (has x hm)
  · obtain ⟨f0, f1, f2, f3, f4, f5⟩ := hf b hb
    obtain ⟨o, ho⟩ := hfo b hb
    exact ⟨fun z => Nat.lt_irrefl _ (Nat.lt_of_lt_of_eq (Heap.lt_size ho) z.symm), fun x c e => f4 x c (sub x c e)⟩
  · obtain ⟨f0, f1, f2, f3, f4, f5⟩ := hf b hb
    rcases f3 with q | q
    · exact I.ok.noex b o e q
    · exact Nat.lt_irrefl _ (Nat.lt_of_lt_of_le (Heap.lt_size e) (Nat.le_trans I.ok.bsz q))
  · have e2' : (xs.map (fun _ => (none : Option V)) ++ ix.map (fun i => (σ[i]?).join))[i]? = some (some v) := e2
    have e1' : (xs ++ ix.map (fun i => X.N.getD i ""))[i]? = some x := e1
    by_cases hi : i < xs.length
    · rw [List.getElem?_append_left (by simpa using hi), List.getElem?_map] at e2'
      cases q : xs[i]? with
      | none => rw [q] at e2'; cases e2'
      | some z => rw [q] at e2'; cases e2'
    · have hi' : xs.length ≤ i := Nat.not_lt.mp hi
      rw [List.getElem?_append_right (by simpa using hi'), List.length_map, List.getElem?_map] at e2'
      rw [List.getElem?_append_right hi', List.getElem?_map] at e1'
      cases q : ix[i - xs.length]? with
      | none => rw [q] at e2'; cases e2'
      | some j =>
        rw [q] at e1' e2'
        have hj : j ∈ ix := List.mem_of_getElem? q
        have ex : X.N.getD j "" = x := Option.some.inj e1'
        have ev : (σ[j]?).join = some v := Option.some.inj e2'
        have hjl := S.inN j hj
        have eN : X.N[j]? = some x := by
          rw [← ex, List.getD_eq_getElem?_getD]
          rw [List.getElem?_eq_getElem hjl]; rfl
        have eσ : σ[j]? = some (some v) := by
          cases z : σ[j]? with
          | none => rw [z] at ev; cases ev
          | some y => rw [z] at ev; simp at ev; rw [ev]
        have hfr := S.frx j hj
        rw [ex] at hfr
        have hkin := S.fre x (PySem.mem_of_lookup hfr)
        obtain ⟨m, hn, hl⟩ := I.loc
        obtain ⟨u, ru, lk⟩ := hl j x v eN eσ (hkin.elim (fun z => .inr (.inl z)) fun z => .inr (.inr z))
        refine ⟨u, ru, .inr ⟨relabel_free (scope := scope) (env := X.env) scope.names x hfr, ?_⟩⟩
        rcases lk with ⟨k1, _⟩ | ⟨_, c, ec, zc⟩
        · rcases hkin with z | z <;> (rw [z] at k1; cases k1)
        · obtain ⟨c', ec'⟩ := Option.isSome_iff_exists.mp (has x (PySem.mem_of_lookup hfr))
          have q2 := sub x c' ec'
          rw [ec] at q2; cases q2
          obtain ⟨oc, hoc, hd⟩ := zc
          exact ⟨c, ec', oc, hk c oc hoc, hd⟩
  · obtain ⟨v, oc, hoc, hd⟩ := I.cell x c (sub x c e)
    exact ⟨v, oc, hk c oc hoc, hd⟩
  · show (xs.map (fun _ => (none : Option V)) ++ ix.map (fun i => (σ[i]?).join)).length = (xs ++ ix.map (fun i => X.N.getD i "")).length
    simp
theorem lc_loop {prog : Program} {w : World} {A : Around} {R : Result → Shared → Prop} {s : Shared} {elt target iter : Expr} {ifs : List Expr} {scope : Scope} {pos : Pos} {it acc : Value} {env : Env} (J : Nat → Shared → Prop)
    (turn : ∀ n s, J n s → wpAny (model prog w) A (pyNext it) (fun r s1 => match r with
      | none => R (.ok .next) s1
      | some v => wpAny (model prog w) A (letOwnedTupleGo target it v) (fun _ s1' => wpAny (model prog w) A (assign target env v) (fun _ s2 =>
          wpAny (model prog w) A (forIn ifs true fun c r => if r = true then do let ok ← isTrue c env (eval c env); pure (ForInStep.yield ok) else pure (ForInStep.yield r)) (fun ok s3 =>
            if ok = true then wpAny (model prog w) A (eval elt env) (fun x s4 =>
              wpAny (model prog w) A (call (.builtin "list.append") [acc, x]) (fun _ s5 => ∃ m, m < n ∧ J m s5) (fun _ _ => False) s4) (fun _ _ => False) s3
            else ∃ m, m < n ∧ J m s3) (fun _ _ => False) s2) (fun _ _ => False) s1') (fun _ _ => False) s1) (fun _ _ => False) s)
    (n : Nat) (h : J n s) : codeAny (model prog w) A (.compLoop (.ListComp elt [⟨target, iter, ifs, 0⟩] scope pos) 0 it acc env) R s := by
  refine codeAny_loop rfl J (fun n s hJ => ?_) n h
  have nof : ∀ (e : Value) (s' : Shared), False → notedBy (model prog w) A env (fun e s' => R (.error e) s') e s' := fun _ _ f => f.elim
  show wpAny (model prog w) A ((compTurn (.ListComp elt [⟨target, iter, ifs, 0⟩] scope pos) 0 it acc env).onRaise (fun x => do noteFrame x env; theTreesLotGoes x)) _ _ s
  refine wpAny_noted ?_
  rw [compTurn_list]
  refine wpAny_bind (wpAny_standAt (wpAny_bind (wpAny_mono (turn n s hJ) (fun r s1 h1 => ?_) nof)))
  cases r with
  | none => exact wpAny_pure h1
  | some v =>
    refine wpAny_bind (wpAny_mono h1 (fun _ s1' h1' => ?_) nof)
    refine wpAny_bind (wpAny_mono h1' (fun _ s2 h2 => ?_) nof)
    refine wpAny_bind (wpAny_mono h2 (fun ok s3 h3 => ?_) nof)
    cases ok with
    | false => exact wpAny_pure ⟨rfl, h3⟩
    | true =>
      refine wpAny_bind (wpAny_bind (wpAny_mono h3 (fun x s4 h4 => ?_) nof))
      exact wpAny_bind (wpAny_mono h4 (fun _ s5 h5 => wpAny_pure (wpAny_pure ⟨rfl, h5⟩)) nof)
noncomputable def PTs (X : Cx) (ifs : List Expr) (t : TT) : Prop :=
  ∀ (pins : List (Addr × Obj)) (s : Shared) (σ : St) (H : Hp) (Q : Bool → Hp → Prop), Inv X pins σ H s → t σ H Q →
    wpAny (model X.prog X.w) X.A (forIn ifs true fun c r => if r = true then do let ok ← isTrue c X.env (eval c X.env); pure (ForInStep.yield ok) else pure (ForInStep.yield r)) (TP X pins σ Q) X.xe s
noncomputable def tYes : TT := fun _ H Q => Q true H
theorem pts_nil {X : Cx} : PTs X [] tYes := fun _ _ _ H _ I h => wpAny_tests_nil ⟨H, I, h⟩
theorem pts_one {X : Cx} {c : Expr} {t : TT} (h : PT X c t) : PTs X [c] t := fun pins s σ H Q I hw => wpAny_tests_one (h pins s σ H Q I hw)
noncomputable def LCW (J : It) (xs : List Str) (ix : List Nat) (g : TG) (tt : TT) (te : TE) (σ : St) (H1 : Hp) (acc : Addr) (Q : VK) : Prop :=
  ∃ W : Nat → Nat → List V → St → Hp → Prop, (∃ m, W 0 m [] (stC xs ix σ) (upd H1 acc (.lst []))) ∧
    ∀ i m ys τ H, W i m ys τ H → H acc = some (.lst ys) ∧ ys.length < sizeLine ∧
      ((J.stop i H ∧ Q (.ref acc) H) ∨ (J.go i H ∧ ∃ N : List V → St → Hp → Prop, (∀ ys' τ' H', N ys' τ' H' → ∃ m', m' < m ∧ W (i + 1) m' ys' τ' H') ∧
        ∀ x H', J.yld i H x H' → g x τ H' fun τ2 H2 => tt τ2 H2 fun b H3 =>
        if b = true then te τ2 H3 fun y H4 => H4 acc = some (.lst ys) ∧ N (ys ++ [y]) τ2 (upd H4 acc (.lst (ys ++ [y]))) else N ys τ2 H3))
noncomputable def tLC (xs : List Str) (ix : List Nat) (wi : TI) (g : TG) (tt : TT) (te : TE) : TE := fun σ H Q => wi σ H fun J H1 => ∀ acc, H1 acc = none → LCW J xs ix g tt te σ H1 acc Q
structure TurnG (Reg : Cx → Prop) (P : Program) (w : World) (tg : Expr) (J : It) (fp : List Addr) (it : Addr) (tn : Nat → Heap → Prop) : Prop where
  mem : it ∈ fp
  obj : ∀ i h, tn i h → ∀ b ∈ fp, ∃ o, h.get? b = some o ∧ ∀ v, o.data ≠ .cell v
  keep : ∀ i h h', tn i h → (∀ b ∈ fp, ∀ o, h.get? b = some o → h'.get? b = some o) → tn i h'
  item : ∀ (X : Cx), X.prog = P → X.w = w → Reg X → ∀ (i : Nat) (pins : List (Addr × Obj)) (s : Shared) (σ : St) (H : Hp) (E : Value → Shared → Prop), Inv X pins σ H s → (∀ b ∈ fp, FpOk X pins H b) → tn i s.heap → J.go i H →
    wpAny (model P w) X.A (pyNext (.ref it)) (fun r s1 => ∃ u, r = some u ∧
      wpAny (model P w) X.A (letOwnedTupleGo tg (.ref it) u) (fun _ s2 => ∃ x H', Inv X pins σ H' s2 ∧ RelV x u ∧ J.yld i H x H' ∧ tn (i + 1) s2.heap ∧ ∀ b ∈ fp, H' b = none) E s1) E s
  done : ∀ (X : Cx), X.prog = P → X.w = w → Reg X → ∀ (i : Nat) (pins : List (Addr × Obj)) (s : Shared) (σ : St) (H : Hp) (E : Value → Shared → Prop), Inv X pins σ H s → (∀ b ∈ fp, FpOk X pins H b) → tn i s.heap → J.stop i H →
    wpAny (model P w) X.A (pyNext (.ref it)) (fun r s1 => r = none ∧ Inv X pins σ H s1) E s
  self : ∀ (A : Around) (i : Nat) (s : Shared) (Q : Value → Shared → Prop) (E : Value → Shared → Prop), tn i s.heap → Q (.ref it) s → wpAny (model P w) A (pyIter (.ref it)) Q E s
noncomputable def PIEG (Reg : Cx → Prop) (X : Cx) (pins : List (Addr × Obj)) (σ : St) (tg : Expr) (R : It → Hp → Prop) (itv : Value) (s2 : Shared) : Prop :=
  ∃ (it : Addr) (fp : List Addr) (tn : Nat → Heap → Prop) (J : It) (H' : Hp), itv = .ref it ∧ Inv X pins σ H' s2 ∧ TurnG Reg X.prog X.w tg J fp it tn ∧ tn 0 s2.heap ∧ (∀ b ∈ fp, FpOk X pins H' b) ∧ R J H'
noncomputable def PIG (Reg : Cx → Prop) (X : Cx) (tg iter : Expr) (wi : TI) : Prop :=
  ∀ (pins : List (Addr × Obj)) (s : Shared) (σ : St) (H : Hp) (R : It → Hp → Prop), Inv X pins σ H s → wi σ H R →
    wpAny (model X.prog X.w) X.A (eval iter X.env) (fun v s1 => wpAny (model X.prog X.w) X.A (pyIter v) (PIEG Reg X pins σ tg R) X.xe s1) X.xe s
theorem lc_coreG {Reg : Cx → Prop} {X : Cx} {xs : List Str} {ix : List Nat} {scope : Scope} {elt tg iter : Expr} {ifs : List Expr} {pos : Pos} {wi : TI} {g : TG} {tt : TT} {te : TE}
    (S : CompScope X xs ix scope) (hreg : ∀ Y : Cx, Y.K = X.K → Y.calm = X.calm → Y.A.handled = X.A.handled → Reg Y) (hi : PIG Reg X tg iter wi)
    (hg : ∀ C fp s H, PG (cxC X xs ix scope C fp s H) tg g) (ht : ∀ C fp s H, PTs (cxC X xs ix scope C fp s H) ifs tt) (he : ∀ C fp s H, PE (cxC X xs ix scope C fp s H) elt te)
    {pins : List (Addr × Obj)} {s : Shared} {σ : St} {H : Hp} {Q : VK} (I : Inv X pins σ H s) (h : tLC xs ix wi g tt te σ H Q) {use : Option (Value → Sem Unit)} {R : Value → Shared → Prop}
    (fin : ∀ (acc C : Addr) (H' : Hp) (s' : Shared) (m : Str → Option Value), Q (.ref acc) H' → s'.heap.Ns C m → (∀ h', Heap.SameBut C s'.heap h' → ∀ tk, Inv X pins σ H' { s' with heap := h', toks := tk }) → (X.s₀.heap.objs.size ≤ C ∧ C ≠ X.env.locals ∧ (∀ x c, X.env.cells.lookup x = some c → c ≠ C) ∧ (∀ p ∈ X.pn ++ pins, p.1 ≠ C) ∧ H' C = none) → compPost (model X.prog X.w) X.A X.xe use R (.ref acc) C (.ok .next) s') :
    wpAny (model X.prog X.w) X.A (eval iter X.env) (fun x s₁ => wpAny (model X.prog X.w) X.A (pyIter x) (fun it s₂ => wpAny (model X.prog X.w) X.A (newList []) (fun acc s₃ =>
      wpAny (model X.prog X.w) X.A (newFunctionEnv scope X.env.globals (clF X.env scope.names []) [] X.env.qual none .none (some X.env)) (fun cenv s₄ =>
        codeAny (model X.prog X.w) X.A (.compStart (.ListComp elt [⟨tg, iter, ifs, 0⟩] scope pos) 0 it acc { cenv with scope := relabel scope X.env }) (compPost (model X.prog X.w) X.A X.xe use R acc cenv.locals) s₄) X.xe s₃) X.xe s₂) X.xe s₁) X.xe s := by
  refine thn (hi pins s σ H _ I h) fun v s1 h1 => thn h1 fun itv s2 h2 => ?_
  obtain ⟨it, fp, tn, J, H2, rfl, I2, T, st2, f2, q⟩ := h2
  refine wpAny_newObj_type ?_
  have I3 : Inv X pins σ (upd H2 s2.heap.objs.size (.lst [])) { s2 with heap := s2.heap.push { cls := .type "list", data := .seq ([] : List Value).toArray }, toks := s2.toks } := I2.lnew (ys := []) (its := []) .nil (Nat.zero_le _)
  obtain ⟨W, ⟨m0, w0⟩, turn⟩ := q s2.heap.objs.size I2.fresh
  have objs2 := T.obj 0 _ st2
  have neacc : ∀ b ∈ fp, b ≠ s2.heap.objs.size := fun b hb z => by
    obtain ⟨o, ho, _⟩ := objs2 b hb
    exact Nat.lt_irrefl _ (Nat.lt_of_lt_of_eq (Heap.lt_size ho) z.symm)
  generalize hacc : s2.heap.objs.size = acc at *
  generalize hs3 : ({ s2 with heap := s2.heap.push { cls := .type "list", data := .seq ([] : List Value).toArray } } : Shared) = s3
  have I3 : Inv X pins σ (upd H2 acc (.lst [])) s3 := by rw [← hs3]; exact I3
  have k3 : ∀ b o, s2.heap.get? b = some o → s3.heap.get? b = some o := fun b o e => by rw [← hs3]; exact Heap.get?_push_of_some _ e
  have f3 : ∀ b ∈ fp, FpOk X pins (upd H2 acc (.lst [])) b := fun b hb => ⟨by rw [upd_ne (neacc b hb)]; exact (f2 b hb).1, (f2 b hb).2⟩
  have o3 : ∀ b ∈ fp, ∃ o, s3.heap.get? b = some o := fun b hb => let ⟨o, ho, _⟩ := objs2 b hb; ⟨o, k3 b o ho⟩
  have st3 : tn 0 s3.heap := T.keep _ _ _ st2 fun b _ o e => k3 b o e
  refine wpAny_newFunctionEnv S.nocell (by intro y hy; simp at hy) (fun h1 hns1 hsb1 => ?_) S.kind
  have keep1 : ∀ b o, s3.heap.get? b = some o → h1.get? b = some o := fun b o e => hsb1.extBut b o (Nat.ne_of_lt (Heap.lt_size e)) (Heap.get?_push_of_some _ e)
  generalize hs4 : ({ s3 with heap := h1, toks := s3.toks + ([] : List (Str × Value)).length } : Shared) = s4
  have I4 : Inv (cxC X xs ix scope s3.heap.objs.size fp s3 (upd H2 acc (.lst []))) [] (stC xs ix σ) (upd H2 acc (.lst [])) s4 := block_start S I3 f3 o3 hns1 keep1 hs4.symm
  have st4 : tn 0 s4.heap := T.keep _ _ _ st3 fun b _ o e => by rw [← hs4]; exact keep1 b o e
  generalize hX' : cxC X xs ix scope s3.heap.objs.size fp s3 (upd H2 acc (.lst [])) = X' at *
  have hg := hg s3.heap.objs.size fp s3 (upd H2 acc (.lst []))
  have ht := ht s3.heap.objs.size fp s3 (upd H2 acc (.lst []))
  have he := he s3.heap.objs.size fp s3 (upd H2 acc (.lst []))
  rw [hX'] at hg ht he
  have eP : X'.prog = X.prog := by rw [← hX']; rfl
  have ew : X'.w = X.w := by rw [← hX']; rfl
  have eK : X'.K = X.K := by rw [← hX']; rfl
  have eA : X'.A = X.A := by rw [← hX']; rfl
  have ec : Reg X' := hreg X' eK (by rw [← hX']; rfl) (by rw [← hX']; rfl)
  have ex : X'.xe = fun _ _ => False := by rw [← hX']; rfl
  have eenv : X'.env = compEnvC scope (clF X.env scope.names []) s3.heap.objs.size X.env := by rw [← hX']; rfl
  have eex : X'.ex = fp := by rw [← hX']; rfl
  have efs : X'.fs = frs X.stack := by rw [← hX']; rfl
  have epn : X'.pn = [] := by rw [← hX']; rfl
  have eH0 : X'.H₀ = upd H2 acc (.lst []) := by rw [← hX']; rfl
  have es0 : X'.s₀ = s3 := by rw [← hX']; rfl
  have eloc : X'.env.locals = s3.heap.objs.size := by rw [eenv]; rfl
  have stat : ∀ {H' : Hp}, (∀ b ∈ fp, H' b = none) → ∀ b ∈ fp, FpOk X' [] H' b := fun {H'} hn b hb => by
    refine ⟨hn b hb, ?_, ?_, .inl (by rw [eex]; exact hb), ?_, ?_⟩
    · rw [eloc]
      intro z
      obtain ⟨o, ho⟩ := o3 b hb
      exact Nat.lt_irrefl _ (Nat.lt_of_lt_of_eq (Heap.lt_size ho) z.symm)
    · exact I4.ok.exfs b (by rw [eex]; exact hb)
    · exact (I4.ok.exf b (by rw [eex]; exact hb)).2
    · rw [epn]; intro p hp; exact absurd hp (by simp)
  have loop : codeAny (model X.prog X.w) X.A (.compLoop (.ListComp elt [⟨tg, iter, ifs, 0⟩] scope pos) 0 (.ref it) (.ref acc) X'.env) (compPost (model X.prog X.w) X.A X.xe use R (.ref acc) s3.heap.objs.size) s4 := by
    refine lc_loop (fun n s' => ∃ i ys τ H', Inv X' [] τ H' s' ∧ tn i s'.heap ∧ (∀ b ∈ fp, H' b = none) ∧ W i n ys τ H') ?_ m0 ⟨0, [], _, _, I4, st4, fun b hb => (f3 b hb).1, w0⟩
    rintro n s5 ⟨i, ys, τ, H5, I5, st5, fr5, w5⟩
    obtain ⟨ha5, hz5, way⟩ := turn i n ys τ H5 w5
    rcases way with ⟨stop, qn⟩ | ⟨go, N, hN, step⟩
    · have d := T.done X' eP ew ec i [] s5 τ H5 (fun _ _ => False) I5 (stat fr5) st5 stop
      rw [eA] at d
      refine thn d fun r s6 hz41 => ?_
      obtain ⟨hr, I6⟩ := hz41
      subst hr
      obtain ⟨m, hn6, _⟩ := id I6.loc
      rw [eloc] at hn6
      refine fin acc s3.heap.objs.size H5 s6 m qn hn6 (fun h' hsb tk => ?_) ⟨I3.sz, Ne.symm (Nat.ne_of_lt I3.lt), fun x c e z => by
        obtain ⟨v, oc, hoc, _⟩ := I3.cell x c e
        exact Nat.lt_irrefl _ (Nat.lt_of_lt_of_eq (Heap.lt_size hoc) z.symm), fun p hp z => Nat.lt_irrefl _ (Nat.lt_of_lt_of_eq (Heap.lt_size (I3.pin p hp).1) z.symm), by have := I6.free; rw [eloc] at this; exact this⟩
      have same : ∀ b, b ≠ s3.heap.objs.size → h'.get? b = s6.heap.get? b := fun b hb => hsb.2 b hb
      have ub := I6.base
      rw [efs, eex, eH0, es0] at ub
      have ne3 : ∀ b o, s3.heap.get? b = some o → b ≠ s3.heap.objs.size := fun b o e => Nat.ne_of_lt (Heap.lt_size e)
      have u : Un (frs X.stack) fp (upd H2 acc (.lst [])) H5 s3.heap h' :=
        ⟨fun b o e n1 n2 n3 => (same b (ne3 b o e)).trans (ub.keep b o e n1 n2 n3), fun b o e n1 n2 n3 => by
            obtain ⟨sl, z⟩ := ub.slot b o e n1 n2 n3
            exact ⟨sl, (same b (ne3 b o e)).trans z⟩, ub.free, fun b o e n3 => by
            obtain ⟨o', z⟩ := ub.there b o e n3
            exact ⟨o', (same b (ne3 b o e)).trans z⟩, ub.tups, ub.frzs, ub.tbls⟩
      have fC : H5 s3.heap.objs.size = none := by have := I6.free; rw [eloc] at this; exact this
      have hok : HOk X.prog X.w H5 h' := fun b o e => by
        have z := I6.hok b o e
        rw [eP, ew] at z
        refine z.stay (fun c u hc q => (same c ?_).trans q) (fun _ q => q) fun _ _ q => q
        intro zc
        rcases hc with q1 | q1
        · rw [← q1, zc, fC] at e; cases e
        · rw [zc, fC] at q1; cases q1
      have hch : ∀ b ∈ fp, (b ∈ X.ex ∨ X.s₀.heap.objs.size ≤ b) ∧ b ≠ X.env.locals ∧ (∀ x c, X.env.cells.lookup x = some c → c ≠ b) ∧ ∀ p ∈ X.pn ++ pins, p.1 ≠ b := fun b hb => by
        obtain ⟨_, f1, _, g3, g4, g5⟩ := f3 b hb
        exact ⟨g3, f1, g4, g5⟩
      have ho : s6.os = s3.os := by have := I6.os; rw [es0] at this; exact this
      exact I3.call' (s' := { s6 with heap := h', toks := tk }) (ch := fp) ho u hok I6.bare hch
    · have d := T.item X' eP ew ec i [] s5 τ H5 (fun _ _ => False) I5 (stat fr5) st5 go
      rw [eA] at d
      refine thn d fun r s6 hz42 => ?_
      obtain ⟨u, hr, h6⟩ := hz42
      subst hr
      refine thn h6 fun _ s7 hz43 => ?_
      obtain ⟨x, H7, I7, r7, y7, st7, fr7⟩ := hz43
      have I7' := I7.pinned (stat fr7) (T.obj _ _ st7)
      have dg := hg _ s7 τ H7 x u _ I7' r7 (step x H7 y7)
      rw [eP, ew, eA, ex] at dg
      refine thn dg fun _ s8 hz44 => ?_
      obtain ⟨τ8, H8, I8, q8⟩ := hz44
      have dt := ht _ s8 τ8 H8 _ I8 q8
      rw [eP, ew, eA, ex] at dt
      refine thn dt fun ok s9 hz45 => ?_
      obtain ⟨H9, I9, q9⟩ := hz45
      have again : ∀ {τ' : St} {H' : Hp} {s' : Shared}, Inv X' ([] ++ pinsAt fp s7.heap) τ' H' s' → Inv X' [] τ' H' s' ∧ tn (i + 1) s'.heap ∧ ∀ b ∈ fp, H' b = none := fun {τ' H' s'} Ie => by
        refine ⟨Ie.unpinned, T.keep _ _ _ st7 fun b hb o e => (Ie.pin (b, o) (List.mem_append_right _ (List.mem_append_right _ (mem_pinsAt hb e)))).1, fun b hb => ?_⟩
        obtain ⟨o, e, _⟩ := T.obj _ _ st7 b hb
        exact (Ie.pin (b, o) (List.mem_append_right _ (List.mem_append_right _ (mem_pinsAt hb e)))).2.1
      cases ok with
      | false =>
        rw [if_neg Bool.false_ne_true] at q9 ⊢
        obtain ⟨m', hm, w9⟩ := hN _ _ _ q9
        obtain ⟨z1, z2, z3⟩ := again I9
        exact ⟨m', hm, i + 1, ys, τ8, H9, z1, z2, z3, w9⟩
      | true =>
        rw [if_pos rfl] at q9 ⊢
        have de := he _ s9 τ8 H9 _ I9 q9
        rw [eP, ew, eA, ex] at de
        refine thn de fun yv s10 hz46 => ?_
        obtain ⟨y, H10, I10, r10, ha10, n10⟩ := hz46
        obtain ⟨m', hm, w10⟩ := hN _ _ _ n10
        have dm := mt_append (X := X') _ s10 τ8 H10 (.ref acc) [y] (.ref acc) [yv] (fun v H' => v = .non ∧ H' = upd H10 acc (.lst (ys ++ [y]))) I10 rfl (.cons r10 .nil) ⟨acc, ys, y, rfl, rfl, ha10, hz5, rfl, rfl⟩
        rw [eP, ew, eA, ex] at dm
        refine thn dm fun _ s11 hz47 => ?_
        obtain ⟨_, H11, I11, _, _, e11⟩ := hz47
        subst e11
        obtain ⟨z1, z2, z3⟩ := again I11
        exact ⟨m', hm, i + 1, ys ++ [y], τ8, _, z1, z2, z3, w10⟩
  have e4 : ({ newEnv scope s3.heap.objs.size X.env.globals (clF X.env scope.names []) X.env.qual none .none (some X.env) builtinsNs with scope := relabel scope X.env } : Env) = X'.env := by rw [eenv]; rfl
  rw [eenv] at loop
  have self := T.self X.A 0 s4 (fun it' s' => codeAny (model X.prog X.w) X.A (.compLoop (.ListComp elt [⟨tg, iter, ifs, 0⟩] scope pos) 0 it' (.ref acc) (compEnvC scope (clF X.env scope.names []) s3.heap.objs.size X.env)) (compPost (model X.prog X.w) X.A X.xe use R (.ref acc) s3.heap.objs.size) s')
    (notedBy (model X.prog X.w) X.A (compEnvC scope (clF X.env scope.names []) s3.heap.objs.size X.env) fun x s' => compPost (model X.prog X.w) X.A X.xe use R (.ref acc) s3.heap.objs.size (.error x) s') st4 loop
  exact codeAny_compStart_list loop self
theorem lc_core {X : Cx} {xs : List Str} {ix : List Nat} {scope : Scope} {elt tg iter : Expr} {ifs : List Expr} {pos : Pos} {wi : TI} {g : TG} {tt : TT} {te : TE}
    (S : CompScope X xs ix scope) (hc : X.calm = true) (hi : PI X tg iter wi)
    (hg : ∀ C fp s H, PG (cxC X xs ix scope C fp s H) tg g) (ht : ∀ C fp s H, PTs (cxC X xs ix scope C fp s H) ifs tt) (he : ∀ C fp s H, PE (cxC X xs ix scope C fp s H) elt te)
    {pins : List (Addr × Obj)} {s : Shared} {σ : St} {H : Hp} {Q : VK} (I : Inv X pins σ H s) (h : tLC xs ix wi g tt te σ H Q) {use : Option (Value → Sem Unit)} {R : Value → Shared → Prop}
    (fin : ∀ (acc C : Addr) (H' : Hp) (s' : Shared) (m : Str → Option Value), Q (.ref acc) H' → s'.heap.Ns C m → (∀ h', Heap.SameBut C s'.heap h' → ∀ tk, Inv X pins σ H' { s' with heap := h', toks := tk }) → (X.s₀.heap.objs.size ≤ C ∧ C ≠ X.env.locals ∧ (∀ x c, X.env.cells.lookup x = some c → c ≠ C) ∧ (∀ p ∈ X.pn ++ pins, p.1 ≠ C) ∧ H' C = none) → compPost (model X.prog X.w) X.A X.xe use R (.ref acc) C (.ok .next) s') :
    wpAny (model X.prog X.w) X.A (eval iter X.env) (fun x s₁ => wpAny (model X.prog X.w) X.A (pyIter x) (fun it s₂ => wpAny (model X.prog X.w) X.A (newList []) (fun acc s₃ =>
      wpAny (model X.prog X.w) X.A (newFunctionEnv scope X.env.globals (clF X.env scope.names []) [] X.env.qual none .none (some X.env)) (fun cenv s₄ =>
        codeAny (model X.prog X.w) X.A (.compStart (.ListComp elt [⟨tg, iter, ifs, 0⟩] scope pos) 0 it acc { cenv with scope := relabel scope X.env }) (compPost (model X.prog X.w) X.A X.xe use R acc cenv.locals) s₄) X.xe s₃) X.xe s₂) X.xe s₁) X.xe s :=
  lc_coreG (Reg := fun Y => Y.K = X.K ∧ Y.calm = true) S (fun Y k c _ => ⟨k, c.trans hc⟩)
    (fun pins s σ H R I q => thn (hi pins s σ H R I q) fun v s1 h1 => thn h1 fun itv s2 h2 => by
      obtain ⟨it, fp, tn, J, H', e, I', T, r⟩ := h2
      exact ⟨it, fp, tn, J, H', e, I', ⟨T.mem, T.obj, T.keep, fun Y e1 e2 r => T.item Y e1 e2 r.1 r.2, fun Y e1 e2 r => T.done Y e1 e2 r.1 r.2, T.self⟩, r⟩) hg ht he I h fin
theorem pe_lc {X : Cx} {xs : List Str} {ix : List Nat} {scope : Scope} {elt tg iter : Expr} {ifs : List Expr} {pos : Pos} {wi : TI} {g : TG} {tt : TT} {te : TE}
    (S : CompScope X xs ix scope) (hc : X.calm = true) (hi : PI X tg iter wi)
    (hg : ∀ C fp s H, PG (cxC X xs ix scope C fp s H) tg g) (ht : ∀ C fp s H, PTs (cxC X xs ix scope C fp s H) ifs tt) (he : ∀ C fp s H, PE (cxC X xs ix scope C fp s H) elt te)
    (hs : ∀ x, foldedSetIterable iter X.env x = pure x := by intro _; rfl) :
    PE X (.ListComp elt [⟨tg, iter, ifs, 0⟩] scope pos) (tLC xs ix wi g tt te) := by
  intro pins s σ H Q I h
  have hcl : ∀ n, (n, NameKind.free) ∈ scope.names → (X.env.cells.lookup n).isSome = true := fun n hn => by
    obtain ⟨c, e⟩ := I.ok.has n (S.fre n hn)
    rw [e]; rfl
  rw [eval_ListComp]
  refine wpAny_comprehension_free (use := none) rfl hs (closureFor_clF hcl) S.kind S.loc ?_
  refine lc_core S hc hi hg ht he I h fun acc C H' s' m q hn k _ => ?_
  exact ⟨m, hn, fun h' hsb => ⟨.ref acc, H', k h' hsb s'.toks, rfl, q⟩⟩
theorem Inv.letgo {X : Cx} {pins : List (Addr × Obj)} {σ : St} {H : Hp} {s : Shared} {h' : Heap} {C : Addr} (I : Inv X pins σ H s) (hs : Heap.SameBut C s.heap h')
    (hC : X.s₀.heap.objs.size ≤ C ∧ C ≠ X.env.locals ∧ (∀ x c, X.env.cells.lookup x = some c → c ≠ C) ∧ (∀ p ∈ X.pn ++ pins, p.1 ≠ C) ∧ H C = none) : Inv X pins σ H { s with heap := h' } := by
  obtain ⟨c1, c2, c3, c4, c5⟩ := hC
  have same : ∀ b, b ≠ C → h'.get? b = s.heap.get? b := fun b hb => hs.2 b hb
  have ne : ∀ {b : Addr}, b ∉ [C] → b ≠ C := fun h e => h (by simp [e])
  have u : Un (frs X.stack) [C] H H s.heap h' :=
    ⟨fun b o e _ _ n => (same b (ne n)).trans e, fun b o e _ _ n => ⟨o.slots, (same b (ne n)).trans e⟩, fun b o _ e _ => e, fun b o e n => ⟨o, (same b (ne n)).trans e⟩, fun _ _ e => e, fun _ _ _ e => e, fun b ps e => ⟨#[], by rw [Array.append_empty]; exact e⟩⟩
  have hok : HOk X.prog X.w H h' := fun b o e => by
    refine (I.hok b o e).stay (fun c u hc q => (same c ?_).trans q) (fun _ q => q) fun _ _ q => q
    intro zc
    rcases hc with q1 | q1
    · rw [← q1, zc, c5] at e; cases e
    · rw [zc, c5] at q1; cases q1
  refine I.call' (s' := { s with heap := h' }) (ch := [C]) rfl u hok I.bare fun b hb => ?_
  have eb : b = C := by simpa using hb
  subst eb
  exact ⟨.inr c1, c2, c3, c4⟩
theorem ps_setLC {X : Cx} {xs : List Str} {ix : List Nat} {scope : Scope} {elt tg iter : Expr} {ifs : List Expr} {cpos pos pos' : Pos} {wi : TI} {g : TG} {tt : TT} {te : TE} {i : Nat} {x : Str}
    (hN : X.N.Nodup) (hin : X.N[i]? = some x) (hx : Loc X.env.scope x)
    (S : CompScope X xs ix scope) (hc : X.calm = true) (hi : PI X tg iter wi)
    (hg : ∀ C fp s H, PG (cxC X xs ix scope C fp s H) tg g) (ht : ∀ C fp s H, PTs (cxC X xs ix scope C fp s H) ifs tt) (he : ∀ C fp s H, PE (cxC X xs ix scope C fp s H) elt te)
    (hsw : swapsWith (.ListComp elt [⟨tg, iter, ifs, 0⟩] scope cpos) (some (.Name x pos')) pos.line X.env = pure true)
    (hf : X.fn x = true ∨ X.env.scope.names.lookup x = some .local := by first | exact .inl rfl | exact .inr rfl | assumption)
    (hs : ∀ x, foldedSetIterable iter X.env x = pure x := by intro _; rfl) :
    PS X (.Assign [.Name x pos'] (.ListComp elt [⟨tg, iter, ifs, 0⟩] scope cpos) pos) (tAsg (tLC xs ix wi g tt te) (gName i)) := by
  intro pins s σ H D I h
  have hcl : ∀ n, (n, NameKind.free) ∈ scope.names → (X.env.cells.lookup n).isSome = true := fun n hn => by
    obtain ⟨c, e⟩ := I.ok.has n (S.fre n hn)
    rw [e]; rfl
  rw [exec_Assign_Name_used _ _ _ _ hsw]
  refine wpAny_bind (wpAny_standAt (wpAny_bind ?_))
  rw [arm_evalThenUse_ListComp]
  refine wpAny_bind (thn (Q := fun _ s' => SP X pins D .next s') (wpAny_comprehension_free (g := ⟨tg, iter, ifs, 0⟩) (gs := []) (use := some (assign (.Name x pos') X.env)) rfl hs (closureFor_clF hcl) S.kind S.loc ?_) fun _ s1 h1 => wpAny_pure (wpAny_pure h1))
  refine lc_core S hc hi hg ht he I h fun acc C H' s' m q hn k hC => ?_
  have I' : Inv X pins σ H' s' := k s'.heap (Heap.SameBut.refl _ _) s'.toks
  show wpAny (model X.prog X.w) X.A (assign (.Name x pos') X.env (.ref acc)) (fun _ s'' => ∃ m, s''.heap.Ns C m ∧ ∀ h', Heap.SameBut C s''.heap h' → SP X pins D .next { s'' with heap := h' }) X.xe s'
  refine wpAny_assign_Name (store_ok2 I' hN hin hx (v := .ref acc) rfl (fun s'' I'' hz48 => ?_) hf)
  obtain ⟨a, hsa, ha⟩ := hz48
  refine ⟨m, hn.sameBut hsa ?_, fun h' hsb => ⟨_, H', I''.letgo hsb hC, q⟩⟩
  rcases ha with rfl | ha
  · exact hC.2.1
  · exact fun z => hC.2.2.1 x a ha z.symm
end L2
set_option Elab.async false
set_option linter.all false
set_option maxRecDepth 100000
set_option maxHeartbeats 4000000
namespace L2
open PySem PySem.Spec PyProof.Rows
noncomputable def Its (x : Str) : It := ⟨fun i _ => i < x.cps.size, fun i H v H' => H' = H ∧ ∃ c, x.cps[i]? = some c ∧ v = .str ⟨#[c]⟩, fun i _ => i = x.cps.size⟩
theorem turn_str {P : Program} {w : World} {K : PySem.W.Frag} {tg : Expr} (it : Addr) (x : Str) (t : Tok) (ty : String)
    (hty : ["enumerate", "zip", "dict_itemiterator", "dict_reverseitemiterator", "odict_iterator", "itertools.zip_longest", "itertools.pairwise"].contains ty = false)
    (W : ∀ A : Around, A.handled = none → Walks P w A it [it] [it] x.cps.size (SignAt x) (fun i h => h.IsStrIter it ty x t i))
    (self : ∀ (A : Around) (i : Nat) (s : Shared) (Q : Value → Shared → Prop) (E : Value → Shared → Prop), s.heap.IsStrIter it ty x t i → Q (.ref it) s → wpAny (model P w) A (pyIter (.ref it)) Q E s) :
    Turn P w K tg (Its x) [it] it (fun i h => h.IsStrIter it ty x t i) where
  mem := by simp
  obj := fun i h st b hb => by
    have e : b = it := by simpa using hb
    subst e
    obtain ⟨o, e, c, d⟩ := st
    exact ⟨o, e, fun v z => by rw [d] at z; cases z⟩
  keep := fun i h h' st k => let ⟨o, e, r⟩ := st; ⟨o, k it (by simp) o e, r⟩
  item := by
    intro X hP hw hK hc i pins s σ H E I hf st hg
    subst hP hw hK
    obtain ⟨f0, f1, f2, f3, f4, f5⟩ := hf it (by simp)
    refine (W X.A (I.ok.hd hc)).item i s _ _ hg st fun v h' tk hv st' kk => ?_
    obtain ⟨c, u, hcx, rfl⟩ := hv
    have I1 : Inv X pins σ H { s with heap := h', toks := tk } := I.turned (fun b o hb e => kk b o (by simpa using hb) e) f0 f1 f3 f4 f5
    obtain ⟨o, e, c', d⟩ := id st'
    exact ⟨_, rfl, go_of (s := { s with heap := h', toks := tk }) e c' d hty ⟨.str ⟨#[c]⟩, H, I1, ⟨u, rfl⟩, ⟨rfl, c, hcx, rfl⟩, st', fun b hb => (hf b hb).1⟩⟩
  done := by
    intro X hP hw hK hc i pins s σ H E I hf st hg
    subst hP hw hK
    obtain ⟨f0, f1, f2, f3, f4, f5⟩ := hf it (by simp)
    have hg' : i = x.cps.size := hg
    subst hg'
    exact (W X.A (I.ok.hd hc)).done s _ _ st fun h' tk kk => ⟨rfl, I.turned (fun b o hb e => kk b o (by simpa using hb) e) f0 f1 f3 f4 f5⟩
  self := self
section
variable {X : Cx} {tg : Expr}
noncomputable def iStr (tl : TE) : TI := fun σ H R => tl σ H fun x H1 => ∃ z, x = .str z ∧ R (Its z) H1
theorem pi_str {l : Expr} {tl : TE} (hl : PE X l tl) : PI X tg l (iStr tl) := by
  intro pins s σ H R I h
  refine thn (hl pins s σ H _ I h) fun v s1 hz49 => ?_
  obtain ⟨x, H1, I1, r1, q1⟩ := hz49
  obtain ⟨z, e, q⟩ := q1
  subst e
  obtain ⟨t, rfl⟩ := (show ∃ t, v = Value.str z t from r1)
  have fin : ∀ (o : Obj) (ty : String), o.cls = .type ty → o.data = .fields #[.str z t, .int 0 0] →
      ["enumerate", "zip", "dict_itemiterator", "dict_reverseitemiterator", "odict_iterator", "itertools.zip_longest", "itertools.pairwise"].contains ty = false →
      o.isFreed = false →
      (∀ A : Around, A.handled = none → Walks X.prog X.w A s1.heap.objs.size [s1.heap.objs.size] [s1.heap.objs.size] z.cps.size (SignAt z) (fun i h => h.IsStrIter s1.heap.objs.size ty z t i)) →
      (∀ (A : Around) (i : Nat) (s : Shared) (Q : Value → Shared → Prop) (E : Value → Shared → Prop), s.heap.IsStrIter s1.heap.objs.size ty z t i → Q (.ref s1.heap.objs.size) s → wpAny (model X.prog X.w) A (pyIter (.ref s1.heap.objs.size)) Q E s) →
      PIE X pins σ tg R (.ref s1.heap.objs.size) { s1 with heap := s1.heap.push o } := fun o ty h1 h2 h3 hfr W self => by
    refine ⟨s1.heap.objs.size, [s1.heap.objs.size], _, _, H1, rfl, I1.kept (t' := s1.toks) fun b o e => Heap.get?_push_of_some _ e, turn_str _ z t ty h3 W self, ⟨o, Heap.get?_push_size _ hfr, h1, h2⟩, fun b hb => ?_, q⟩
    have e : b = s1.heap.objs.size := by simpa using hb
    subst e
    exact I1.fpOk (Nat.le_refl _) (I1.hok.fresh (Nat.le_refl _))
  cases ha : z.cps.all (· < 128)
  · exact wpAny_pyIter_wide ha (fin _ "str_iterator" rfl rfl (by decide) rfl (fun A hA => Walks.strWide hA _ z t) fun _ _ _ _ _ st hQ => wpAny_pyIter_striter_wide st hQ)
  · exact wpAny_pyIter_ascii ha (fin _ "str_ascii_iterator" rfl rfl (by decide) rfl (fun A hA => Walks.strAscii hA _ z t) fun _ _ _ _ _ st hQ => wpAny_pyIter_striter_ascii st hQ)
theorem in1_handled {A : Around} (h : A.handled = none) : A.in1.handled = none := h
theorem bools_get {ys : List Bool} {its : List Value} (r : Vals (ys.map V.bl) its) {i : Nat} {v : Value} (h : its[i]? = some v) : ∃ b, ys[i]? = some b ∧ v = .bool b := by
  have hl := r.length
  rw [List.length_map] at hl
  have hi : i < its.length := (List.getElem?_eq_some_iff.mp h).1
  obtain ⟨u, e1, e2⟩ := r.get (i := i) (x := V.bl (ys[i]'(by omega))) (by rw [List.getElem?_map, List.getElem?_eq_getElem (by omega)]; rfl)
  rw [h] at e1
  cases e1
  exact ⟨_, List.getElem?_eq_getElem (by omega), e2⟩
theorem range_all (ys : List Bool) : (List.range ys.length).all (fun i => ys.getD i false) = ys.all id := by
  have e : ys = (List.range ys.length).map (fun i => ys.getD i false) := by
    apply List.ext_getElem (by simp)
    intro i h1 h2
    simp [List.getD_eq_getElem?_getD, List.getElem?_eq_getElem h1]
  conv => rhs; rw [e]
  rw [List.all_map]; rfl
theorem call_all (hc : X.calm = true) : CallR X (.builtin "all") (fun xs H Q => ∃ (p : Addr) (ys : List Bool), xs = [.ref p] ∧ SqL X.K H p (ys.map V.bl) ∧ Q (.bl (ys.all id)) H) := by
  intro pins s σ H xs us Q I r h
  obtain ⟨p, ys, rfl, hq, q⟩ := h
  obtain ⟨u, rfl, ru⟩ := r.one
  cases ru
  obtain ⟨its, rv, pl, hz⟩ := I.list hq
  have hl := rv.length
  rw [List.length_map] at hl
  refine call_all_walk (wpAny_pyIter_list pl.isList ?_)
  have hp : p < s.heap.objs.size := by obtain ⟨o, ho, _⟩ := pl.isList; exact Heap.lt_size ho
  refine ⟨s.heap.objs.size, _, _, _, _, _, fun i => ys.getD i false, rfl, Walks.list (in1_handled (I.ok.hd hc)) _ p (Nat.ne_of_lt hp) its.toArray, ⟨⟨_, Heap.get?_push_size _ rfl, rfl, rfl⟩, ?_⟩, ?_, fun h' tk kk => ?_⟩
  · obtain ⟨o, ho, r⟩ := pl.isList
    exact ⟨o, Heap.get?_push_of_some _ ho, r⟩
  · intro i v s' Q' E' hP hQ
    obtain ⟨b, e1, rfl⟩ := bools_get rv (by simpa using hP)
    refine wpAny_truthy_bool ?_
    have e2 : ys.getD i false = b := by rw [List.getD_eq_getElem?_getD, e1]; rfl
    rw [← e2]; exact hQ
  · refine ⟨.bl (ys.all id), H, I.kept fun b o e => kk b o ?_ (Heap.get?_push_of_some _ e), ?_, q⟩
    · intro z; have z' : b = s.heap.objs.size := by simpa using z
      exact Nat.ne_of_lt (Heap.lt_size e) z'
    · have e3 : its.toArray.size = ys.length := by simp; omega
      rw [e3, range_all]; rfl
theorem call_isinst : CallR X (.builtin "isinstance") (fun xs H Q => ∃ x t T b, xs = [x, .ty T] ∧ TyOf X.K H x t ∧ PySem.W.kitOne X.K t (.type T) = some b ∧ Q (.bl b) H) := by
  intro pins s σ H xs us Q I r h
  obtain ⟨x, t, T, b, rfl, ty, e, q⟩ := h
  obtain ⟨u, v, rfl, ru, rv⟩ := r.two
  cases rv
  exact isinst_ok I ru ty e fun tk => ⟨.bl b, H, I.tok tk, rfl, q⟩
noncomputable def rSlS : V → Option Int → Option Int → Hp → VK → Prop := fun x lo hi H Q => ∃ z, x = .str z ∧ z.length ≤ sizeLine ∧ Q (.str (Txt.slice z lo hi)) H
theorem sl_str : SlR X rSlS := by
  intro pins s σ H x v vl vu lo hi sl Q I rx hs pl pu h
  obtain ⟨z, rfl, hz, q⟩ := h
  obtain ⟨t, rfl⟩ := (show ∃ t, v = Value.str z t from rx)
  refine ⟨"str", _, F.slot_str_getitem.lookup, typeIs_str _ _ _, ?_⟩
  have key : ∀ (l u : Option (Int × Tok)), vl = partValue l → vu = partValue u → lo = l.map (·.1) → hi = u.map (·.1) →
      wpAny (model X.prog X.w) X.A (getItem (.str z t) (.ref sl)) (EP X pins σ Q) X.xe s := by
    intro l u e1 e2 e3 e4
    subst e1 e2
    refine wpAny_getItem_str_slice (l := l) (u := u) (st := none) hs rfl ?_
    unfold sliceMade
    have ee : Txt.slice z lo hi = if (((none : Option (Int × Tok)).map (·.1)).getD 1 == 1 && (slicePicked z l u none).length == z.length) = true then z else ⟨((slicePicked z l u none).filterMap (z.cps[·]?)).toArray⟩ := by
      rw [e3, e4]; rfl
    split
    · rename_i c
      rw [if_pos c] at ee
      rw [ee] at q
      exact ⟨.str z, H, I, ⟨t, rfl⟩, q⟩
    · rename_i c
      rw [if_neg c] at ee
      rw [ee] at q
      have hle := Txt.slice_le z lo hi
      rw [ee] at hle
      exact ⟨Nat.le_trans hle hz, .str _, H, I.tok _, ⟨_, rfl⟩, q⟩
  cases pl with
  | none =>
    cases pu with
    | none => exact key none none rfl rfl rfl rfl
    | int j tj => exact key none (some (j, tj)) rfl rfl rfl rfl
  | int i ti =>
    cases pu with
    | none => exact key (some (i, ti)) none rfl rfl rfl rfl
    | int j tj => exact key (some (i, ti)) (some (j, tj)) rfl rfl rfl rfl
theorem strs_of : ∀ {ys : List Str} {us : List Value}, Vals (ys.map V.str) us → StrsAre us ys
  | [], _, .nil => .nil
  | y :: ys, _, .cons r t => by
    obtain ⟨k, rfl⟩ := r
    exact .cons y k (strs_of t)
theorem mt_join : MtR X "str.join" (fun x xs H Q => ∃ (z : Str) (p : Addr) (ys : List Str), x = .str z ∧ xs = [.ref p] ∧ SqL X.K H p (ys.map V.str) ∧ (ys.map (·.length)).sum + ys.length * z.length ≤ 16777216 ∧ Q (.str (Txt.join z ys)) H) := by
  intro pins s σ H x xs v us Q I rx rs h
  obtain ⟨z, p, ys, rfl, rfl, hq, hz, q⟩ := h
  obtain ⟨t, rfl⟩ := (show ∃ t, v = Value.str z t from rx)
  obtain ⟨u, rfl, ru⟩ := rs.one
  cases ru
  obtain ⟨its, rv, pl, hl⟩ := I.list hq
  exact join_list pl.isList (strs_of (by simpa using rv)) hz fun t' k => ⟨.str _, H, I.tok k, ⟨t', rfl⟩, q⟩
theorem op_fdivB : OpR X (binaryOp .FloorDiv) (rI (fun _ j => 0 < j ∧ j < 2 ^ 62) fun i j => .int (i / j)) := opI fun i j _ _ _ _ _ hc q => by
  have hp : (0 : Int) < j := hc.1
  have hq : j < 2 ^ 62 := hc.2
  have hlog : j.natAbs.log2 < 9000 := by
    have h1 : j.natAbs ≠ 0 := by omega
    have h2 : j.natAbs.log2 < 62 := (Nat.log2_lt h1).mpr (by omega)
    omega
  exact floordiv_int (by omega) (by rw [Int.fdiv_eq_ediv_of_nonneg i (by omega)]; exact q) (.inl (PyProof.noPylong_of_log2 hlog))
end
end L2
set_option Elab.async false
set_option linter.all false
set_option maxRecDepth 100000
set_option maxHeartbeats 4000000
namespace L2
open PySem PySem.Spec PyProof.Rows
structure FunG (K : PySem.W.Frag) (mg : Str → Option Value) (x : Str) (st : Stmt) (ps : List Str) : Prop where
  ex : ∃ (f : Addr) (fd : FuncData), Fun K x x st f fd ∧ mg x = some (.ref f) ∧ Binds K fd ps []
structure Cal (P : Program) (w : World) (K : PySem.W.Frag) (mg : Str → Option Value) (base : Heap) (CX : CXT) (k : Nat) (x : Str) (ps : List Str) (sp : Sp) : Prop where
  ex : ∃ (f : Addr) (fd : FuncData), FnOk P w K mg base CX k f fd ps sp ∧ mg x = some (.ref f) ∧ PySem.W.keepIn K (.ref f) = true ∧ Binds K fd ps []
section
variable {P : Program} {w : World} {K : PySem.W.Frag} {mg : Str → Option Value} {base : Heap}
theorem FunG.ok {x : Str} {st : Stmt} {N ps : List Str} {k : Nat} {sp : Sp} (G : FunG K mg x st ps) (S : FnScope N ps (defScope st)) (len : ∀ vs H Q E, sp vs H Q E → vs.length = ps.length)
    (hbody : ∀ (f : Addr) (cdv : Value) (A : Around) (outer : List Env) (s : Shared) (H : Hp) (vs : List V) (Q : VK) (E : XK), Room k (A.deeper (envOfC x (defScope st) s.heap.objs.size f cdv)) → sp vs H Q E →
      ∃ t, PSs (cxOf CX0 P w K mg base N x (defScope st) f cdv A outer s H E).nox (defBody st) t ∧ t { nx := fun _ H' => Q .non H', rt := Q } (start N vs) H) : Cal P w K mg base CX0 (k + 1) x ps sp := by
  obtain ⟨f, fd, F, hm, hb⟩ := G.ex
  exact ⟨f, fd, F.ok S len fun cdv A outer s H vs Q E hr h => hbody f cdv A outer s H vs Q E hr h, hm, F.kp, hb⟩
theorem funG_mk {h : Heap} {x : Str} {st : Stmt} {f : Addr} {oc : Value} {od an : Option Addr} {osl : Array (Option Value)} {kV doc pm cdv ct : Value} {ps : List Str} (X : K.In h) (G : h.Ns mainGlobals mg)
    (a : PySem.W.nsIn K mainGlobals x = some (some (.ref f)))
    (l : K.lookup f = some ⟨oc, od, .func (PySem.W.fnOf x x (defArgs st) (defBody st) (defScope st) .none kV doc pm an cdv ct), osl⟩) (c : PySem.W.codeIn K cdv x = true) (k : PySem.W.keepIn K (.ref f) = true)
    (hb : ∀ (kV doc pm : Value) (an : Option Addr) (cdv ct : Value) (us : List Value), us.length = ps.length → bindArgs (PySem.W.fnOf x x (defArgs st) (defBody st) (defScope st) .none kV doc pm an cdv ct) ⟨us, []⟩ = pure (ps.zip us)) : FunG K mg x st ps :=
  ⟨f, _, fun_mk l c k, PySem.W.mg_of X G a, (fun_mk l c k).binds hb⟩
end
section
variable {X : Cx} {CX : CXT} {k : Nat} {ps : List Str} {sp : Sp} {E : XK} {x : Str} {p pos : Pos} {e : Expr} {es : List Expr} {t : TA}
theorem pe_cal (C : Cal X.prog X.w X.K X.mg X.base CX0 k x ps sp) (hr : Room k X.A) (ha : PA X (e :: es) t) (hg : Gl X x := by rfl)
    (hdb : (x == ("__debug__" : Str)) = false := by decide) (he : starEach (e :: es) X.env = (false, eval e X.env) :: starEach es X.env := by rfl) (hpl : (backTo pos (starEach es X.env)).any (·.1) = false := by rfl) :
    PE X (.Call (.Name x p) (e :: es) [] pos) (tCall sp [] E0 t) :=
  let ⟨_, _, F, hm, hk, hb⟩ := C.ex
  pe_call F hr hg hm hk hb .nil pass0 ha hdb he hpl
structure Blt (mg : Str → Option Value) (x : Str) : Prop where
  no : mg x = none
theorem pe_blt {id : String} {r : List V → Hp → VK → Prop} (hc : CallR X (.builtin id) r) (b : Blt X.mg x) (hv : bootBuiltins x = some (.builtin id)) (ha : PA X (e :: es) t) (hg : Gl X x := by rfl) (hn : x ≠ "__name__" := by decide) (hdb : (x == ("__debug__" : Str)) = false := by decide)
    (he : starEach (e :: es) X.env = (false, eval e X.env) :: starEach es X.env := by rfl) (hpl : (backTo pos (starEach es X.env)).any (·.1) = false := by rfl) :
    PE X (.Call (.Name x p) (e :: es) [] pos) (tCB r t) := pe_callB hc hg b.no hv ha hn hdb he hpl
theorem pe_ty {T : String} (b : Blt X.mg x) (hv : bootBuiltins x = some (.type T)) (hg : Gl X x := by rfl) (hn : x ≠ "__name__" := by decide) (hd : (x == ("__debug__" : Str)) = false := by decide) : PE X (.Name x pos) (tC (.ty T)) :=
  pe_bltn hg b.no hv rfl hn hd
end
noncomputable def Keep (S : List Addr) (H H' : Hp) : Prop := ∀ b o, b ∉ S → H b = some o → H' b = some o
theorem Keep.refl {S : List Addr} (H : Hp) : Keep S H H := fun _ _ _ h => h
theorem Keep.trans {S : List Addr} {H H1 H2 : Hp} (a : Keep S H H1) (b : Keep S H1 H2) : Keep S H H2 := fun c o n h => b c o n (a c o n h)
theorem Keep.mono {S S' : List Addr} {H H1 : Hp} (a : Keep S H H1) (h : ∀ b ∈ S, b ∈ S') : Keep S' H H1 := fun c o n q => a c o (fun z => n (h c z)) q
theorem Keep.new {S : List Addr} {H : Hp} {p : Addr} {o : HO} (h : H p = none) : Keep S H (upd H p o) := fun b u _ q => by rw [upd_ne (ne_of_none q h)]; exact q
theorem Keep.at {S : List Addr} {H : Hp} {p : Addr} {o : HO} (h : p ∈ S) : Keep S H (upd H p o) := fun b u n q => by
  rw [upd_ne (fun z => n (by rw [z]; exact h))]; exact q
theorem Keep.none {S : List Addr} {H H' : Hp} (k : Keep S H H') {l : Addr} (n : l ∉ S) (h : H' l = Option.none) : H l = Option.none := by
  cases q : H l with
  | none => rfl
  | some o => rw [k l o n q] at h; cases h
theorem Keep.same {H H' : Hp} (k : Keep [] H H') : Same H H' := fun b o h => k b o (by simp) h
theorem Keep.seq {K : PySem.W.Frag} {H H' : Hp} {a : Addr} {xs : List V} (k : Keep [] H H') (h : SqL K H a xs) : SqL K H' a xs := k.same.seq h
theorem lc_by {J : It} {xs : List Str} {ix : List Nat} {g : TG} {tt : TT} {te : TE} {n : Nat} {σ : St} {H1 : Hp} {Q : VK} {acc : Addr} (hn : n < sizeLine) (item : Nat → V) (Pv : Nat → List V → St → Hp → Prop)
    (h0 : Pv 0 [] (stC xs ix σ) (upd H1 acc (.lst [])))
    (hacc : ∀ i ys τ H, Pv i ys τ H → H acc = some (.lst ys) ∧ ys.length ≤ i)
    (hgo : ∀ i ys τ H, i < n → Pv i ys τ H → J.go i H) (hyl : ∀ i ys τ H x H', i < n → Pv i ys τ H → J.yld i H x H' → H' = H ∧ x = item i) (hst : ∀ ys τ H, Pv n ys τ H → J.stop n H)
    (hs : ∀ i ys τ H, i < n → Pv i ys τ H → g (item i) τ H fun τ2 H2 => tt τ2 H2 fun b H3 =>
      if b = true then te τ2 H3 fun y H4 => H4 acc = some (.lst ys) ∧ Pv (i + 1) (ys ++ [y]) τ2 (upd H4 acc (.lst (ys ++ [y]))) else Pv (i + 1) ys τ2 H3)
    (hd : ∀ ys τ H, Pv n ys τ H → Q (.ref acc) H) :
    LCW J xs ix g tt te σ H1 acc Q := by
  refine ⟨fun i m ys τ H => m = n - i ∧ i ≤ n ∧ Pv i ys τ H, ⟨n, by simp, Nat.zero_le _, h0⟩, ?_⟩
  rintro i m ys τ H ⟨rfl, hi, p⟩
  obtain ⟨a1, a2⟩ := hacc i ys τ H p
  refine ⟨a1, by omega, ?_⟩
  by_cases hlt : i < n
  · refine .inr ⟨hgo i ys τ H hlt p, Pv (i + 1), fun ys' τ' H' p' => ⟨n - (i + 1), by omega, rfl, hlt, p'⟩, fun x H' y => ?_⟩
    obtain ⟨rfl, rfl⟩ := hyl i ys τ H x H' hlt p y
    exact hs i ys τ _ hlt p
  · have e : i = n := by omega
    subst e
    exact .inl ⟨hst ys τ H p, hd ys τ H p⟩
theorem lc_range {xs : List Str} {ix : List Nat} {g : TG} {tt : TT} {te : TE} {lo : Int} {n : Nat} {σ : St} {H1 : Hp} {Q : VK} {acc : Addr} (hn : n < sizeLine) (Pv : Nat → List V → St → Hp → Prop)
    (h0 : Pv 0 [] (stC xs ix σ) (upd H1 acc (.lst [])))
    (hacc : ∀ i ys τ H, Pv i ys τ H → H acc = some (.lst ys) ∧ ys.length ≤ i)
    (hs : ∀ i ys τ H, i < n → Pv i ys τ H → g (.int (lo + i)) τ H fun τ2 H2 => tt τ2 H2 fun b H3 =>
      if b = true then te τ2 H3 fun y H4 => H4 acc = some (.lst ys) ∧ Pv (i + 1) (ys ++ [y]) τ2 (upd H4 acc (.lst (ys ++ [y]))) else Pv (i + 1) ys τ2 H3)
    (hd : ∀ ys τ H, Pv n ys τ H → Q (.ref acc) H) :
    LCW (Itr lo n) xs ix g tt te σ H1 acc Q :=
  lc_by hn (fun i => .int (lo + i)) Pv h0 hacc (fun i _ _ _ h _ => h) (fun i _ _ _ _ _ _ _ h => h) (fun _ _ _ _ => Nat.le_refl n) hs hd
theorem lc_str {xs : List Str} {ix : List Nat} {g : TG} {tt : TT} {te : TE} {z : Str} {σ : St} {H1 : Hp} {Q : VK} {acc : Addr} (hn : z.cps.size < sizeLine) (Pv : Nat → List V → St → Hp → Prop)
    (h0 : Pv 0 [] (stC xs ix σ) (upd H1 acc (.lst [])))
    (hacc : ∀ i ys τ H, Pv i ys τ H → H acc = some (.lst ys) ∧ ys.length ≤ i)
    (hs : ∀ i ys τ H, i < z.cps.size → Pv i ys τ H → g (.str ⟨#[z.cps.getD i 0]⟩) τ H fun τ2 H2 => tt τ2 H2 fun b H3 =>
      if b = true then te τ2 H3 fun y H4 => H4 acc = some (.lst ys) ∧ Pv (i + 1) (ys ++ [y]) τ2 (upd H4 acc (.lst (ys ++ [y]))) else Pv (i + 1) ys τ2 H3)
    (hd : ∀ ys τ H, Pv z.cps.size ys τ H → Q (.ref acc) H) :
    LCW (Its z) xs ix g tt te σ H1 acc Q :=
  lc_by hn (fun i => .str ⟨#[z.cps.getD i 0]⟩) Pv h0 hacc (fun i _ _ _ h _ => h) (fun i _ _ _ x H' _ _ h => ⟨h.1, by
    obtain ⟨_, c, e, ex⟩ := h
    rw [ex, show z.cps.getD i 0 = c by rw [Array.getD_eq_getD_getElem?, e]; rfl]⟩) (fun _ _ _ _ => rfl) hs hd
theorem lc_list {K : PySem.W.Frag} {a : Addr} {its : List V} {xs : List Str} {ix : List Nat} {g : TG} {tt : TT} {te : TE} {σ : St} {H1 : Hp} {Q : VK} {acc : Addr} (hn : its.length < sizeLine) (Pv : Nat → List V → St → Hp → Prop)
    (h0 : Pv 0 [] (stC xs ix σ) (upd H1 acc (.lst [])))
    (hacc : ∀ i ys τ H, Pv i ys τ H → H acc = some (.lst ys) ∧ ys.length ≤ i ∧ SqL K H a its)
    (hs : ∀ i ys τ H x, its[i]? = some x → Pv i ys τ H → g x τ H fun τ2 H2 => tt τ2 H2 fun b H3 =>
      if b = true then te τ2 H3 fun y H4 => H4 acc = some (.lst ys) ∧ Pv (i + 1) (ys ++ [y]) τ2 (upd H4 acc (.lst (ys ++ [y]))) else Pv (i + 1) ys τ2 H3)
    (hd : ∀ ys τ H, Pv its.length ys τ H → Q (.ref acc) H) :
    LCW (Itl K a) xs ix g tt te σ H1 acc Q := by
  refine lc_by hn (fun i => its.getD i .non) Pv h0 (fun i ys τ H p => ⟨(hacc i ys τ H p).1, (hacc i ys τ H p).2.1⟩) (fun i ys τ H h p => ⟨its, its[i], (hacc i ys τ H p).2.2, by simp [h]⟩)
    (fun i ys τ H x H' h p y => ⟨y.1, ?_⟩) (fun ys τ H p => ⟨its, (hacc _ ys τ H p).2.2, Nat.le_refl _⟩) (fun i ys τ H h p => hs i ys τ H _ (by simp [List.getD_eq_getElem?_getD, h]) p) hd
  have e := y.2 its (hacc i ys τ H p).2.2
  rw [List.getD_eq_getElem?_getD, e]; rfl
theorem yes_in {g : TG} {te : TE} {x : V} {τ : St} {H : Hp} {R : St → Hp → VK} {N : St → Hp → Prop} (h : g x τ H fun τ2 H2 => te τ2 H2 (R τ2 H2)) :
    g x τ H fun τ2 H2 => tYes τ2 H2 fun b H3 => if b = true then te τ2 H3 (R τ2 H3) else N τ2 H3 := by
  have e : (fun τ2 H2 => tYes τ2 H2 fun b H3 => if b = true then te τ2 H3 (R τ2 H3) else N τ2 H3) = fun τ2 H2 => te τ2 H2 (R τ2 H2) := by
    funext τ2 H2
    show (if true = true then te τ2 H2 (R τ2 H2) else N τ2 H2) = _
    rw [if_pos rfl]
  rw [e]; exact h
theorem lc_range0 {xs : List Str} {ix : List Nat} {g : TG} {te : TE} {lo : Int} {n : Nat} {σ : St} {H1 : Hp} {Q : VK} {acc : Addr} (hn : n < sizeLine) (Pv : Nat → List V → St → Hp → Prop)
    (h0 : Pv 0 [] (stC xs ix σ) (upd H1 acc (.lst [])))
    (hacc : ∀ i ys τ H, Pv i ys τ H → H acc = some (.lst ys) ∧ ys.length ≤ i)
    (hs : ∀ i ys τ H, i < n → Pv i ys τ H → g (.int (lo + i)) τ H fun τ2 H2 => te τ2 H2 fun y H4 => H4 acc = some (.lst ys) ∧ Pv (i + 1) (ys ++ [y]) τ2 (upd H4 acc (.lst (ys ++ [y]))))
    (hd : ∀ ys τ H, Pv n ys τ H → Q (.ref acc) H) : LCW (Itr lo n) xs ix g tYes te σ H1 acc Q :=
  lc_range hn Pv h0 hacc (fun i ys τ H hi p => yes_in (R := fun τ2 _ => fun y H4 => H4 acc = some (.lst ys) ∧ Pv (i + 1) (ys ++ [y]) τ2 (upd H4 acc (.lst (ys ++ [y])))) (hs i ys τ H hi p)) hd
theorem lc_str0 {xs : List Str} {ix : List Nat} {g : TG} {te : TE} {z : Str} {σ : St} {H1 : Hp} {Q : VK} {acc : Addr} (hn : z.cps.size < sizeLine) (Pv : Nat → List V → St → Hp → Prop)
    (h0 : Pv 0 [] (stC xs ix σ) (upd H1 acc (.lst [])))
    (hacc : ∀ i ys τ H, Pv i ys τ H → H acc = some (.lst ys) ∧ ys.length ≤ i)
    (hs : ∀ i ys τ H, i < z.cps.size → Pv i ys τ H → g (.str ⟨#[z.cps.getD i 0]⟩) τ H fun τ2 H2 => te τ2 H2 fun y H4 => H4 acc = some (.lst ys) ∧ Pv (i + 1) (ys ++ [y]) τ2 (upd H4 acc (.lst (ys ++ [y]))))
    (hd : ∀ ys τ H, Pv z.cps.size ys τ H → Q (.ref acc) H) : LCW (Its z) xs ix g tYes te σ H1 acc Q :=
  lc_str hn Pv h0 hacc (fun i ys τ H hi p => yes_in (R := fun τ2 _ => fun y H4 => H4 acc = some (.lst ys) ∧ Pv (i + 1) (ys ++ [y]) τ2 (upd H4 acc (.lst (ys ++ [y])))) (hs i ys τ H hi p)) hd
theorem lc_list0 {K : PySem.W.Frag} {a : Addr} {its : List V} {xs : List Str} {ix : List Nat} {g : TG} {te : TE} {σ : St} {H1 : Hp} {Q : VK} {acc : Addr} (hn : its.length < sizeLine) (Pv : Nat → List V → St → Hp → Prop)
    (h0 : Pv 0 [] (stC xs ix σ) (upd H1 acc (.lst [])))
    (hacc : ∀ i ys τ H, Pv i ys τ H → H acc = some (.lst ys) ∧ ys.length ≤ i ∧ SqL K H a its)
    (hs : ∀ i ys τ H x, its[i]? = some x → Pv i ys τ H → g x τ H fun τ2 H2 => te τ2 H2 fun y H4 => H4 acc = some (.lst ys) ∧ Pv (i + 1) (ys ++ [y]) τ2 (upd H4 acc (.lst (ys ++ [y]))))
    (hd : ∀ ys τ H, Pv its.length ys τ H → Q (.ref acc) H) : LCW (Itl K a) xs ix g tYes te σ H1 acc Q :=
  lc_list hn Pv h0 hacc (fun i ys τ H x hi p => yes_in (R := fun τ2 _ => fun y H4 => H4 acc = some (.lst ys) ∧ Pv (i + 1) (ys ++ [y]) τ2 (upd H4 acc (.lst (ys ++ [y])))) (hs i ys τ H x hi p)) hd
end L2
namespace L2
open PySem PySem.Spec PyProof.Rows
section
variable {X : Cx}
noncomputable def rIxH : R2 := fun x y H Q => ∃ p xs i v, x = .ref p ∧ y = .int i ∧ H p = some (.lst xs) ∧ atI xs i = some v ∧ Q v H
theorem ix_lstH : IxR X rIxH := fun value slice pins s σ H x y v u Q I rx ry hz hs => by
  obtain ⟨p, xs, i, z, a, b, c, d, e⟩ := hz
  exact ix_list value slice pins s σ H x y v u Q I rx ry ⟨p, xs, i, z, a, b, .of c, d, e⟩ hs
noncomputable def rIxTH : R2 := fun x y H Q => ∃ p xs i v, x = .ref p ∧ y = .int i ∧ H p = some (.tup xs) ∧ atI xs i = some v ∧ Q v H
theorem ix_tupH : IxR X rIxTH := fun value slice pins s σ H x y v u Q I rx ry hz hs => by
  obtain ⟨p, xs, i, z, a, b, c, d, e⟩ := hz
  exact ix_tup value slice pins s σ H x y v u Q I rx ry ⟨p, xs, i, z, a, b, .of c, d, e⟩ hs
end
end L2
set_option Elab.async false
set_option linter.all false
set_option maxRecDepth 100000
set_option maxHeartbeats 4000000
namespace L2
open PySem PySem.Spec PyProof.Rows
noncomputable def CompS (N : List Str) (sc : Scope) (xs : List Str) (ix : List Nat) (scope : Scope) : Prop :=
  scope.kind = .function ∧ (∀ y ∈ scope.names, y.2 ≠ .cell) ∧ (∀ y ∈ scope.names, y.2 = .local → scope.names.lookup y.1 = some .local) ∧
  (∀ y ∈ scope.names, y.2 = .free → sc.names.lookup y.1 = some .cell ∨ sc.names.lookup y.1 = some .free) ∧ (∀ x ∈ xs, scope.names.lookup x = some .local) ∧
  (xs ++ ix.map (fun i => N.getD i "")).Nodup ∧ (∀ i ∈ ix, i < N.length) ∧ (∀ i ∈ ix, scope.names.lookup (N.getD i "") = some .free)
instance {N : List Str} {sc : Scope} {xs : List Str} {ix : List Nat} {scope : Scope} : Decidable (CompS N sc xs ix scope) := by unfold CompS; infer_instance
theorem CompS.at {X : Cx} {N : List Str} {sc : Scope} {xs : List Str} {ix : List Nat} {scope : Scope} (S : CompS N sc xs ix scope) (hN : X.N = N) (hsc : X.env.scope = sc) : CompScope X xs ix scope := by
  obtain ⟨a, b, c, d, e, f, g, h⟩ := S
  subst hN hsc
  exact ⟨a, b, c, fun n hn => d (n, .free) hn rfl, e, f, g, h⟩
theorem pe_lc1 {X : Cx} {N : List Str} {sc : Scope} {x : Str} {ix : List Nat} {scope : Scope} {elt iter : Expr} {ifs : List Expr} {px pos : Pos} {wi : TI} {tt : TT} {te : TE}
    (hS : CompS N sc [x] ix scope) (hi : PI X (.Name x px) iter wi)
    (ht : ∀ C fp s H, PTs (cxC X [x] ix scope C fp s H) ifs tt) (he : ∀ C fp s H, PE (cxC X [x] ix scope C fp s H) elt te)
    (hN : X.N = N := by rfl) (hsc : X.env.scope = sc := by rfl) (hc : X.calm = true := by rfl)
    (hs : ∀ x, foldedSetIterable iter X.env x = pure x := by intro _; rfl) :
    PE X (.ListComp elt [⟨.Name x px, iter, ifs, 0⟩] scope pos) (tLC [x] ix wi (gName 0) tt te) := by
  have S := hS.at (X := X) hN hsc
  have hl : ∀ C fp s H, (cxC X [x] ix scope C fp s H).env.scope.names.lookup x = some .local := fun _ _ _ _ => lookup_relabel_local (S.own x (by simp))
  exact pe_lc S hc hi (fun C fp s H => pg_name S.nd rfl (Or.inl (hl C fp s H)) (.inr (hl C fp s H))) ht he hs
theorem ps_setLC1 {X : Cx} {N : List Str} {sc : Scope} {x y : Str} {ix : List Nat} {scope : Scope} {elt iter : Expr} {ifs : List Expr} {px cpos pos pos' : Pos} {wi : TI} {tt : TT} {te : TE} {i : Nat}
    (hN' : X.N.Nodup) (hin : X.N[i]? = some y) (hx : Loc X.env.scope y)
    (hS : CompS N sc [x] ix scope) (hi : PI X (.Name x px) iter wi)
    (ht : ∀ C fp s H, PTs (cxC X [x] ix scope C fp s H) ifs tt) (he : ∀ C fp s H, PE (cxC X [x] ix scope C fp s H) elt te)
    (hN : X.N = N := by rfl) (hsc : X.env.scope = sc := by rfl) (hc : X.calm = true := by rfl)
    (hsw : swapsWith (.ListComp elt [⟨.Name x px, iter, ifs, 0⟩] scope cpos) (some (.Name y pos')) pos.line X.env = pure true := by rfl)
    (hf : X.fn y = true ∨ X.env.scope.names.lookup y = some .local := by first | exact .inl rfl | exact .inr rfl | assumption)
    (hs : ∀ x, foldedSetIterable iter X.env x = pure x := by intro _; rfl) :
    PS X (.Assign [.Name y pos'] (.ListComp elt [⟨.Name x px, iter, ifs, 0⟩] scope cpos) pos) (tAsg (tLC [x] ix wi (gName 0) tt te) (gName i)) := by
  have S := hS.at (X := X) hN hsc
  have hl : ∀ C fp s H, (cxC X [x] ix scope C fp s H).env.scope.names.lookup x = some .local := fun _ _ _ _ => lookup_relabel_local (S.own x (by simp))
  exact ps_setLC hN' hin hx S hc hi (fun C fp s H => pg_name S.nd rfl (Or.inl (hl C fp s H)) (.inr (hl C fp s H))) ht he hsw hf hs
theorem len_app (x y : Str) : (x ++ y).length = x.length + y.length := by
  show (x.cps ++ y.cps).size = _
  simp [Str.length]
end L2
namespace L2
open PySem PySem.Spec PyProof.Rows
theorem Keep.drop {S : List Addr} {H H' : Hp} {a : Addr} (k : Keep (a :: S) H H') (h : H a = Option.none) : Keep S H H' := fun b o n q => k b o (fun z => (List.mem_cons.mp z).elim (fun e => by rw [e, h] at q; cases q) n) q
theorem upd_none {H : Hp} {p a : Addr} {o : HO} (h : upd H p o a = Option.none) : H a = Option.none ∧ a ≠ p := by
  by_cases e : a = p
  · rw [e, upd_same] at h; cases h
  · rw [upd_ne e] at h; exact ⟨h, e⟩
theorem join_len (ys : List Str) : (Txt.join (Str.ofString "") ys).length = (ys.map (·.length)).sum := by
  show (Builtin.Str.glued (Str.ofString "") ys).length = _
  rw [size_glued]
  show _ + (ys.length - 1) * 0 = _
  omega
theorem sum_ones : ∀ (ys : List Str), (∀ z ∈ ys, z.length = 1) → (ys.map (·.length)).sum = ys.length
  | [], _ => rfl
  | y :: ys, h => by
    rw [List.map_cons, List.sum_cons, h y List.mem_cons_self, sum_ones ys fun z hz => h z (List.mem_cons_of_mem _ hz), List.length_cons]
    omega
end L2
namespace L2
theorem atI_in {α : Type} {xs : List α} {i : Int} (h0 : 0 ≤ i) (h1 : i < xs.length) : ∃ v, atI xs i = some v ∧ xs[i.toNat]? = some v := by
  have hl : i.toNat < xs.length := by omega
  refine ⟨xs[i.toNat], ?_, List.getElem?_eq_getElem hl⟩
  have e := atI_nat (List.getElem?_eq_getElem hl)
  rwa [Int.toNat_of_nonneg h0] at e
end L2
namespace L2
open PySem PySem.Spec PyProof.Rows
structure Glo (mg : Str → Option Value) (x : Str) (v : V) : Prop where
  ex : ∃ u, mg x = some u ∧ RelV v u
theorem pe_glo {X : Cx} {x : Str} {v : V} {pos : Pos} (g : Glo X.mg x v) (hg : Gl X x := by rfl) (hd : (x == ("__debug__" : Str)) = false := by decide) : PE X (.Name x pos) (tC v) :=
  let ⟨_, hm, r⟩ := g.ex
  pe_glob hg hm r hd
inductive PlainT (K : PySem.W.Frag) (H : Hp) : V → String → Prop where
  | non : PlainT K H .non "NoneType"
  | bl (x : Bool) : PlainT K H (.bl x) "bool"
  | int (i : Int) : PlainT K H (.int i) "int"
  | str (x : Str) : PlainT K H (.str x) "str"
  | lst {a : Addr} {xs : List V} (e : H a = some (.lst xs)) : PlainT K H (.ref a) "list"
  | tup {a : Addr} {xs : List V} (e : H a = some (.tup xs)) : PlainT K H (.ref a) "tuple"
  | dK {a : Addr} {kvs : List (Key × V)} (e : H a = some (.dK kvs)) : PlainT K H (.ref a) "dict"
theorem PlainT.ty {K : PySem.W.Frag} {H : Hp} {x : V} {T : String} (h : PlainT K H x T) : TyOf K H x (.type T) := by
  cases h with
  | non => exact .non
  | bl b => exact .bl b
  | int i => exact .int i
  | str z => exact .str z
  | lst e => exact .lst e
  | tup e => exact .tup e
  | dK e => exact .dK e
theorem PlainT.kit {K : PySem.W.Frag} {H : Hp} {x : V} {T : String} (h : PlainT K H x T) : PySem.W.kitOne K (.type T) (.type "str") = some (T == "str") ∧ PySem.W.kitOne K (.type T) (.type "int") = some (T == "int" || T == "bool") ∧
    PySem.W.kitOne K (.type T) (.type "bool") = some (T == "bool") ∧ PySem.W.kitOne K (.type T) (.type "list") = some (T == "list") ∧ PySem.W.kitOne K (.type T) (.type "tuple") = some (T == "tuple") := by
  cases h <;> exact ⟨rfl, rfl, rfl, rfl, rfl⟩
theorem PlainT.keep {K : PySem.W.Frag} {H H' : Hp} {x : V} {T : String} (h : PlainT K H x T) (k : Keep [] H H') : PlainT K H' x T := by
  cases h with
  | non => exact .non
  | bl b => exact .bl b
  | int i => exact .int i
  | str z => exact .str z
  | lst e => exact .lst (k _ _ (by simp) e)
  | tup e => exact .tup (k _ _ (by simp) e)
  | dK e => exact .dK (k _ _ (by simp) e)
noncomputable abbrev abc : Str := "abcdefghijklmnopqrstuvwxyz"
noncomputable def letterB (c : Nat) : Bool := !(Builtin.Str.occurrences abc ⟨#[c]⟩ 0 abc.length 1).isEmpty
noncomputable def nameS (z : Str) : Bool := decide (1 ≤ z.length) && decide (z.length ≤ 8) && z.cps.toList.all letterB
noncomputable def nameV : V → Bool
  | .str z => nameS z
  | _ => false
theorem all_map_id {α : Type} (l : List α) (f : α → Bool) : (l.map f).all id = l.all f := by rw [List.all_map]; rfl
end L2
namespace L2
open PySem
theorem bo_isinstance : bootBuiltins "isinstance" = some (.builtin "isinstance") := by decide +kernel
theorem bo_len : bootBuiltins "len" = some (.builtin "len") := by decide +kernel
theorem bo_all : bootBuiltins "all" = some (.builtin "all") := by decide +kernel
theorem bo_sorted : bootBuiltins "sorted" = some (.builtin "sorted") := by decide +kernel
theorem bo_min : bootBuiltins "min" = some (.builtin "min") := by decide +kernel
theorem bo_str : bootBuiltins "str" = some (.type "str") := by decide +kernel
theorem bo_int : bootBuiltins "int" = some (.type "int") := by decide +kernel
theorem bo_bool : bootBuiltins "bool" = some (.type "bool") := by decide +kernel
theorem bo_list : bootBuiltins "list" = some (.type "list") := by decide +kernel
theorem bo_tuple : bootBuiltins "tuple" = some (.type "tuple") := by decide +kernel
theorem bo_set : bootBuiltins "set" = some (.type "set") := by decide +kernel
end L2
namespace L2
theorem ifF {c : Bool} {A B : Prop} (h : c = false) (k : B) : if c = true then A else B := by rw [h]; exact iteF k
theorem ifT {c : Bool} {A B : Prop} (h : c = true) (k : A) : if c = true then A else B := by rw [h]; exact iteT k
end L2
set_option Elab.async false
set_option linter.all false
set_option maxRecDepth 100000
set_option maxHeartbeats 4000000
namespace L2
open PySem PySem.Spec PyProof.Rows
theorem eqV_refl {x : V} (f : flatV x = true) : eqV x x = true := by
  cases x with
  | non => rfl
  | bl b => cases b <;> rfl
  | int i => show (i == i) = true; simp
  | str z => show (z == z) = true; simp
  | _ => exact absurd (show false = true from f) Bool.false_ne_true
section
variable {X : Cx}
noncomputable def Rows (H : Hp) (p : Addr) (rows : List (List V)) : Prop := ∃ ps : List Addr, H p = some (.lst (ps.map V.ref)) ∧ Paired (fun q r => H q = some (.tup r)) ps rows
theorem paired_get {α β : Type} {F : α → β → Prop} {xs : List α} {ys : List β} (h : Paired F xs ys) : ∀ (i : Nat) (x : α), xs[i]? = some x → ∃ y, ys[i]? = some y ∧ F x y := by
  induction h with
  | nil => intro i x h; simp at h
  | cons r _ ih =>
    intro i x h
    cases i with
    | zero => simp at h; subst h; exact ⟨_, rfl, r⟩
    | succ i =>
      obtain ⟨y, h1, h2⟩ := ih i x (by simpa using h)
      exact ⟨y, by simpa using h1, h2⟩
theorem paired_snoc {α β : Type} {F : α → β → Prop} {a : α} {b : β} {xs : List α} {ys : List β} (h : Paired F xs ys) (r : F a b) : Paired F (xs ++ [a]) (ys ++ [b]) := by
  induction h with
  | nil => exact .cons r .nil
  | cons q _ ih => exact .cons q ih
theorem paired_len {α β : Type} {F : α → β → Prop} {xs : List α} {ys : List β} (h : Paired F xs ys) : xs.length = ys.length := by
  induction h with
  | nil => rfl
  | cons _ _ ih => exact congrArg Nat.succ ih
theorem Rows.keep {H H' : Hp} {p : Addr} {rows : List (List V)} (h : Rows H p rows) (k : Keep [] H H') : Rows H' p rows := by
  obtain ⟨ps, e, r⟩ := h
  exact ⟨ps, k _ _ (by simp) e, L2.Paired.mapP r fun q x z => k _ _ (by simp) z⟩
open MeetsSeq in
open AutoSeq1 (wpAny_loadPart') in
open MeetsSeq in
open AutoSeq1 (wpAny_loadPart') in
theorem tys_of : ∀ {Ts : List String} {us : List Value}, Vals (Ts.map V.ty) us → us = Ts.map Value.type
  | [], _, .nil => rfl
  | _ :: Ts, _, .cons r t => by cases r; rw [List.map_cons, tys_of t]
theorem call_isinstT : CallR X (.builtin "isinstance") (fun xs H Q => ∃ (x : V) (T : String) (p : Addr) (Ts : List String) (b : Bool), xs = [x, .ref p] ∧ PlainT X.K H x T ∧ H p = some (.tup (Ts.map V.ty)) ∧ PySem.W.kitAny X.K (.type T) (Ts.map Value.type) = some b ∧ Q (.bl b) H) := by
  intro pins s σ H xs us Q I r h
  obtain ⟨x, T, p, Ts, b, rfl, pt, hp, e, q⟩ := h
  obtain ⟨u, v, rfl, ru, rv⟩ := r.two
  cases rv
  obtain ⟨its, rt, it, _⟩ := I.tuple (.of hp)
  have ei := tys_of rt
  subst ei
  obtain ⟨⟨cls, dd, data, sl⟩, ho, hc, n, hd⟩ := id it
  simp only at hc hd
  subst hc hd
  have fin : ∀ tk, EP X pins σ Q (.bool b) { s with toks := tk } := fun tk => ⟨.bl b, H, I.tok tk, rfl, q⟩
  cases pt with
  | non => cases (show u = Value.none from ru); exact PySem.W.kia_tup PySem.W.kitx_none I.kIn True.intro ho e (fun z => nomatch z) fin
  | bl y => cases (show u = Value.bool y from ru); exact PySem.W.kia_tup PySem.W.kitx_bool I.kIn True.intro ho e (fun z => nomatch z) fin
  | int i => obtain ⟨t, q'⟩ := (show ∃ t, u = Value.int i t from ru); cases q'; exact PySem.W.kia_tup PySem.W.kitx_int I.kIn True.intro ho e (fun z => nomatch z) fin
  | str y => obtain ⟨t, q'⟩ := (show ∃ t, u = Value.str y t from ru); cases q'; exact PySem.W.kia_tup PySem.W.kitx_str I.kIn True.intro ho e (fun z => nomatch z) fin
  | @lst a xs ea =>
    cases (show u = Value.ref a from ru)
    obtain ⟨_, _, n', _, h1⟩ := (show ObjOk X.prog X.w H s.heap a (.lst xs) from I.hok a _ ea)
    exact PySem.W.kia_tup PySem.W.kitx_list I.kIn ⟨_, h1, rfl⟩ ho e (fun z => nomatch z) fin
  | @tup a xs ea =>
    cases (show u = Value.ref a from ru)
    obtain ⟨_, _, _, p'⟩ := (show ObjOk X.prog X.w H s.heap a (.tup xs) from I.hok a _ ea)
    obtain ⟨o, h1, h2, _⟩ := p'
    exact PySem.W.kia_tup PySem.W.kitx_tuple I.kIn ⟨o, h1, h2⟩ ho e (fun z => nomatch z) fin
  | @dK a kvs ea =>
    cases (show u = Value.ref a from ru)
    obtain ⟨_, _, vs, _, p'⟩ := (show ObjOk X.prog X.w H s.heap a (.dK kvs) from I.hok a _ ea)
    obtain ⟨o, es, ep, h1, h2, _⟩ := p'
    exact PySem.W.kia_tup PySem.W.kitx_dict I.kIn ⟨o, h1, h2.1⟩ ho e (fun z => nomatch z) fin
end
structure MthG (K : PySem.W.Frag) (C : Addr) (m qual : Str) (st : Stmt) (ps : List Str) : Prop where
  ex : ∃ (f : Addr) (fd : FuncData), Fun K m qual st f fd ∧ Meth K C m f ∧ Binds K fd ps []
structure MCal (P : Program) (w : World) (K : PySem.W.Frag) (mg : Str → Option Value) (base : Heap) (CX : CXT) (k : Nat) (C : Addr) (m : Str) (ps : List Str) (sp : Sp) : Prop where
  ex : ∃ (f : Addr) (fd : FuncData), FnOk P w K mg base CX k f fd ps sp ∧ Meth K C m f ∧ Binds K fd ps []
section
variable {P : Program} {w : World} {K : PySem.W.Frag} {mg : Str → Option Value} {base : Heap}
theorem MthG.ok {C : Addr} {m qual : Str} {st : Stmt} {N ps : List Str} {k : Nat} {sp : Sp} (G : MthG K C m qual st ps) (S : FnScope N ps (defScope st)) (len : ∀ vs H Q E, sp vs H Q E → vs.length = ps.length)
    (hbody : ∀ (f : Addr) (cdv : Value) (A : Around) (outer : List Env) (s : Shared) (H : Hp) (vs : List V) (Q : VK) (E : XK), Room k (A.deeper (envOfC qual (defScope st) s.heap.objs.size f cdv)) → sp vs H Q E →
      ∃ t, PSs (cxOf CX0 P w K mg base N qual (defScope st) f cdv A outer s H E).nox (defBody st) t ∧ t { nx := fun _ H' => Q .non H', rt := Q } (start N vs) H) : MCal P w K mg base CX0 (k + 1) C m ps sp := by
  obtain ⟨f, fd, F, hm, hb⟩ := G.ex
  exact ⟨f, fd, F.ok S len fun cdv A outer s H vs Q E hr h => hbody f cdv A outer s H vs Q E hr h, hm, hb⟩
theorem mthG_mk {C : Addr} {x qual : Str} {st : Stmt} {f : Addr} {oc : Value} {od an : Option Addr} {osl : Array (Option Value)} {kV doc pm cdv ct : Value} {ps : List Str}
    (a : PySem.W.findIn K (.ref C) x = some (some (.ref f))) (i : PySem.W.isFn K (.ref f) = true)
    (l : K.lookup f = some ⟨oc, od, .func (PySem.W.fnOf x qual (defArgs st) (defBody st) (defScope st) .none kV doc pm an cdv ct), osl⟩) (c : PySem.W.codeIn K cdv qual = true) (k : PySem.W.keepIn K (.ref f) = true)
    (hb : ∀ (kV doc pm : Value) (an : Option Addr) (cdv ct : Value) (us : List Value), us.length = ps.length → bindArgs (PySem.W.fnOf x qual (defArgs st) (defBody st) (defScope st) .none kV doc pm an cdv ct) ⟨us, []⟩ = pure (ps.zip us)) : MthG K C x qual st ps :=
  ⟨f, _, fun_mk l c k, ⟨a, i, k⟩, (fun_mk l c k).binds hb⟩
end
section
variable {X : Cx} {k : Nat} {C : Addr} {ps : List Str} {sp : Sp} {m : Str} {apos pos : Pos} {o e : Expr} {es : List Expr} {ta : TE} {t : TA}
theorem pe_mth {pl : Sem Bool} (M : MCal X.prog X.w X.K X.mg X.base CX0 k C m ps sp) (c : Cls X.K C) (hr : Room k X.A) (ho : PE X o ta) (ha : PA X (e :: es) t)
    (hst : starEach (e :: es) X.env = (false, eval e X.env) :: starEach es X.env := by rfl) (hpl : (backTo pos (starEach es X.env)).any (·.1) = false := by rfl)
    (ht : eval (.Call (.Attribute o m apos) (e :: es) [] pos) X.env = (do
      let ov ← eval o X.env
      standAt apos.atName
      let (f, first) ← holding [ov] (getMethod ov m pl)
      callWith pos f first (backTo pos (starEach (e :: es) X.env)) (backToKw pos (keywordEach [] X.env))) := by rfl) :
    PE X (.Call (.Attribute o m apos) (e :: es) [] pos) (tMeth C m sp [] E0 ta t) :=
  let ⟨_, _, F, hm, hb⟩ := M.ex
  pe_meth ho c hm F hr hb .nil pass0 ha hst hpl ht
theorem pe_mth0 {pl : Sem Bool} (M : MCal X.prog X.w X.K X.mg X.base CX0 k C m ps sp) (c : Cls X.K C) (hr : Room k X.A) (ho : PE X o ta)
    (ht : eval (.Call (.Attribute o m apos) [] [] pos) X.env = (do
      let ov ← eval o X.env
      standAt apos.atName
      let (f, first) ← holding [ov] (getMethod ov m pl)
      callWith pos f first (backTo pos (starEach [] X.env)) (backToKw pos (keywordEach [] X.env))) := by rfl) :
    PE X (.Call (.Attribute o m apos) [] [] pos) (tMeth C m sp [] E0 ta tNil) :=
  let ⟨_, _, F, hm, hb⟩ := M.ex
  pe_meth0 ho c hm F hr hb .nil pass0 ht
end
end L2
set_option Elab.async false
set_option linter.all false
set_option maxRecDepth 100000
set_option maxHeartbeats 4000000
namespace L2
open PySem PySem.Spec PyProof.Rows
section
variable {X : Cx}
noncomputable def rInH (neg : Bool) : R2 := fun x y H Q => ∃ p xs, y = .ref p ∧ H p = some (.lst xs) ∧ flatV x = true ∧ xs.all flatV = true ∧ Q (.bl (if neg then !inV x xs else inV x xs)) H
theorem op_notIn_H : OpR X (compareOp .NotIn) (rInH true) := fun pins s σ H x y v u Q I rx ry ⟨p, xs, a, b, c, d, e⟩ => op_notIn_seq pins s σ H x y v u Q I rx ry ⟨p, xs, a, .inl (.of b), c, d, e⟩
end
structure MkCal (P : Program) (w : World) (K : PySem.W.Frag) (mg : Str → Option Value) (base : Heap) (CX : CXT) (k : Nat) (C : Addr) (x : Str) (ps : List Str) (sp : Sp) : Prop where
  ex : ∃ (f : Addr) (fd : FuncData), FnOk P w K mg base CX k f fd ps sp ∧ Mk K C f ∧ mg x = some (.ref C) ∧ Binds K fd ps []
section
variable {X : Cx} {k : Nat} {C : Addr} {ps : List Str} {sp : Sp} {x : Str} {p pos : Pos} {e : Expr} {es : List Expr} {t : TA}
theorem pe_mk (M : MkCal X.prog X.w X.K X.mg X.base CX0 k C x ps sp) (hr : Room (k + 1) X.A) (ha : PA X (e :: es) t) (hg : Gl X x := by rfl)
    (hdb : (x == ("__debug__" : Str)) = false := by decide) (he : starEach (e :: es) X.env = (false, eval e X.env) :: starEach es X.env := by rfl) (hpl : (backTo pos (starEach es X.env)).any (·.1) = false := by rfl) :
    PE X (.Call (.Name x p) (e :: es) [] pos) (tMake C sp [] E0 t) :=
  let ⟨_, _, F, M', hm, hb⟩ := M.ex
  pe_make M' F hr hg hm hb .nil pass0 ha hdb he hpl
end
end L2
set_option Elab.async false
set_option linter.all false
set_option maxRecDepth 100000
set_option maxHeartbeats 4000000
namespace L2
open PySem PySem.Spec PyProof.Rows
section
variable {prog : Program} {w : World} {A : Around} {E : Value → Shared → Prop} {s : Shared}
end
section
variable {X : Cx} {pos : Pos}
end
theorem lc_rows {K : PySem.W.Frag} {α : Type} {a acc : Addr} {xs : List Str} {ix : List Nat} {g : TG} {tt : TT} {te : TE} {σ : St} {H1 : Hp} {Q : VK} {ds : List α} (f mk : α → List V) (b : α → Bool) (own : α → Addr → List (Option V)) (rest : List (Option V)) (hn : ds.length ≤ 2000) (ha : H1 acc = none) (hS : Rows H1 a (ds.map f))
    (hσ : ∃ vs : List (Option V), stC xs ix σ = vs ++ rest ∧ vs.length = xs.length) (hown : ∀ d q, (own d q).length = xs.length)
    (hg : ∀ (d : α) (q : Addr) (vs : List (Option V)) (H : Hp) (R : St → Hp → Prop), d ∈ ds → vs.length = xs.length → H q = some (.tup (f d)) → R (own d q ++ rest) H → g (.ref q) (vs ++ rest) H R)
    (htt : ∀ (d : α) (q : Addr) (H : Hp) (R : Bool → Hp → Prop), d ∈ ds → Keep [acc] H1 H → H q = some (.tup (f d)) → (∀ H', Keep [] H H' → R (b d) H') → tt (own d q ++ rest) H R)
    (hte : ∀ (d : α) (q : Addr) (H : Hp) (R : VK), d ∈ ds → H q = some (.tup (f d)) → (∀ t H', Keep [] H H' → H' t = some (.tup (mk d)) → R (.ref t) H') → te (own d q ++ rest) H R)
    (q : ∀ H', Rows H' acc ((ds.filter b).map mk) → Keep [] H1 H' → Q (.ref acc) H') : LCW (Itl K a) xs ix g tt te σ H1 acc Q := by
  obtain ⟨ps0, e0, r0⟩ := hS
  have aa : a ≠ acc := ne_of_none e0 ha
  have l0 := paired_len r0
  rw [List.length_map] at l0
  obtain ⟨vs0, hσ, hv0⟩ := hσ
  refine lc_list (K := K) (a := a) (its := ps0.map V.ref) (by rw [List.length_map, sizeLine_eq]; omega)
    (fun i ys τ H2 => ∃ (ps : List Addr) (vs : List (Option V)), τ = vs ++ rest ∧ vs.length = xs.length ∧ ys = ps.map V.ref ∧ Paired (fun q r => H2 q = some (.tup r)) ps (((ds.take i).filter b).map mk) ∧ Keep [acc] H1 H2 ∧ H2 acc = some (.lst ys)) ?_ ?_ ?_ ?_
  · exact ⟨[], vs0, hσ, hv0, rfl, .nil, Keep.at (by simp), upd_same⟩
  · rintro i ys τ H2 ⟨ps, vs, rfl, hv, rfl, hp, kp, h2⟩
    refine ⟨h2, ?_, .of (kp _ _ (by simp [aa]) e0)⟩
    have := paired_len hp
    rw [List.length_map] at this
    have h3 := List.length_filter_le b (ds.take i)
    rw [List.length_map, this]
    rw [List.length_take] at h3
    omega
  · rintro i ys τ H2 x hx ⟨ps, vs, rfl, hv, rfl, hp, kp, h2⟩
    rw [List.getElem?_map] at hx
    cases ez : ps0[i]? with
    | none => rw [ez] at hx; cases hx
    | some qa =>
    rw [ez] at hx
    have ey : V.ref qa = x := Option.some.inj hx
    subst ey
    obtain ⟨r, er, hr⟩ := paired_get r0 i qa ez
    rw [List.getElem?_map] at er
    cases ed : ds[i]? with
    | none => rw [ed] at er; cases er
    | some d =>
    rw [ed] at er
    have er' : f d = r := Option.some.inj er
    subst er'
    have nqa : qa ≠ acc := ne_of_none hr ha
    have hq2 := kp _ _ (by simp [nqa]) hr
    have hm := List.mem_of_getElem? ed
    have eT : ds.take (i + 1) = ds.take i ++ [d] := by rw [List.take_succ, ed]; rfl
    refine hg d qa vs H2 _ hm hv hq2 (htt d qa H2 _ hm kp hq2 fun H4 k4 => ?_)
    cases hb : b d with
    | false =>
      rw [if_neg Bool.false_ne_true]
      refine ⟨ps, own d qa, rfl, hown d qa, rfl, ?_, kp.trans (k4.mono (by simp)), k4 _ _ (by simp) h2⟩
      rw [eT, List.filter_append, List.filter_cons, hb]
      simpa using L2.Paired.mapP hp fun q r e => k4 _ _ (by simp) e
    | true =>
      rw [if_pos rfl]
      refine hte d qa H4 _ hm (k4 _ _ (by simp) hq2) fun t H5 k45 h5t => ?_
      have k5 := k4.trans k45
      have h5 := k5 _ _ (by simp) h2
      have nt : acc ≠ t := by intro z; rw [← z, h5] at h5t; cases h5t
      refine ⟨h5, ps ++ [t], own d qa, rfl, hown d qa, by simp, ?_, (kp.trans (k5.mono (by simp))).trans (Keep.at (by simp)), upd_same⟩
      rw [eT, List.filter_append, List.filter_cons, hb]
      simp only [if_true, List.filter_nil, List.map_append, List.map_cons, List.map_nil]
      refine paired_snoc ?_ (by rw [upd_ne (Ne.symm nt)]; exact h5t)
      exact L2.Paired.mapP hp fun q r e => by
        have e5 := k5 _ _ (by simp) e
        have nq : q ≠ acc := ne_of e5 h5 (by intro z; cases z)
        rw [upd_ne nq]; exact e5
  · rintro ys τ H2 ⟨ps, vs, rfl, hv, rfl, hp, kp, h2⟩
    rw [List.length_map, l0, List.take_length] at hp
    exact q H2 ⟨ps, h2, hp⟩ (kp.drop ha)
theorem Keep.under {S : List Addr} {H0 H1 H2 : Hp} (k0 : Keep [] H0 H1) (k : Keep S H1 H2) (hS : ∀ b ∈ S, H0 b = Option.none) : Keep [] H0 H2 := fun b o _ h => k b o (fun hb => by rw [hS b hb] at h; cases h) (k0 b o (by simp) h)
theorem inV_str (z : Str) (l : List Str) : inV (.str z) (l.map V.str) = decide (z ∈ l) := by
  induction l with
  | nil => rfl
  | cons x l ih =>
    show (eqV (.str x) (.str z) || inV (.str z) (l.map V.str)) = _
    rw [ih]
    show ((x == z) || decide (z ∈ l)) = _
    by_cases h : x = z
    · subst h; simp
    · have h' : ¬ z = x := fun e => h e.symm
      simp [h, h']
end L2
set_option Elab.async false
set_option linter.all false
set_option maxRecDepth 100000
set_option maxHeartbeats 4000000
namespace L2
open PySem PySem.Spec PyProof.Rows
noncomputable def ClsIs (ob : Obj) (C : Addr) : Prop := ob.cls = .ref C ∧ ob.dict = none
theorem dict_mapF (f : Array Value → Array Value) (o : Obj) : (Obj.mapFields f o).dict = o.dict := by
  unfold Obj.mapFields
  split <;> rfl
noncomputable def Rec (h B : Heap) (e C : Addr) (fl : Value) : Prop :=
  ∃ (ob : Obj) (cells : Array Value) (tb : Addr) (ot : Obj) (tcs : Array Value), h.get? e = some ob ∧ ClsIs ob C ∧ ob.data = .fields cells ∧ cells[2]? = some .none ∧ cells[1]? = some (.ref tb) ∧
    B.get? tb = none ∧ tb ≠ e ∧ h.get? tb = some ot ∧ ot.data = .fields tcs ∧ tcs[3]? = some fl
noncomputable def Fly (B : Heap) (l : List Env) (e C : Addr) (fl : Value) (h : Heap) : Prop := B.StaysIn h ∧ B.get? e = none ∧ h.FunFrames B l ∧ Rec h B e C fl
section
variable {M : Model} {A : Around} {E : Value → Shared → Prop} {s : Shared} {B : Heap} {env : Env} {outer : List Env} {L e C : Addr} {Q : Unit → Shared → Prop}
theorem noteTail {head : Value} {hadNext : Bool} {ob : Obj} {cells : Array Value} (fr : A.frames = some (env :: outer)) (ff : s.heap.FunFrames B (env :: outer)) (ef : env.frame = some L)
    (ge : s.heap.get? e = some ob) (gc : ClsIs ob C) (st : B.StaysIn s.heap) (ne : B.get? e = none) (gd : ob.data = .fields cells) (g2 : cells[2]? = some .none)
    (k : ∀ h', Fly B (env :: outer) e C (rawInt L) h' → s.heap.UpToSlots h' → Q () { s with heap := h' }) :
    wpAny M A (do let a ← frameOf env; let pl ← entryPlaceOf L hadNext; let b ← EntryCells.newEntry head a .none (rawInt L) .none pl; setField (.ref e) 1 b) Q E s := by
  have z2 : 2 < cells.size := (Array.getElem?_eq_some_iff.mp g2).1
  have z1 : 1 < cells.size := by omega
  have nfe : e ∉ (env :: outer).filterMap (·.frame) := fun hm => by
    obtain ⟨_, o, ho, hnf⟩ := ff.mem hm
    rw [ge] at ho; cases ho; exact hnf cells gd
  refine wpAny_bind (wpAny_frameOf_fun fr ff ef fun g hg => ?_)
  refine wpAny_bind (wpAny_entryPlaceOf fun pl hpl => ?_)
  unfold EntryCells.newEntry newFields
  refine wpAny_bind (wpAny_newObj_type ?_ (hpl.sizeOk5 _ _ _ _ _))
  have e1 : g.get? e = some ob := (hg.2.1 e nfe).trans ge
  have st1 : B.StaysIn g := fun b o hb => (hg.2.1 b fun hm => by rw [(ff.mem hm).1] at hb; cases hb).trans (st b o hb)
  generalize htb : ({ cls := .type "traceback", dict := none, data := .fields ([head, .ref L, .none, rawInt L, .none] ++ (if pl.isEmpty then List.replicate 6 Value.none else pl)).toArray } : Obj) = tbo
  have tbd : ∃ tcs : Array Value, tbo.data = .fields tcs ∧ tcs[3]? = some (rawInt L) := ⟨_, by rw [← htb], by first | (simp; done) | (rcases hpl with rfl | ⟨_, _, _, _, _, _, _, rfl⟩ <;> simp)⟩
  obtain ⟨tcs, td, t3⟩ := tbd
  have e2 := Heap.get?_push_of_some (h := g) tbo e1
  have nte : g.objs.size ≠ e := Nat.ne_of_gt (Heap.lt_size e1)
  have d3 := Obj.data_mapFields gd (·.setIfInBounds 1 (Value.ref g.objs.size))
  have e3 := Heap.get?_update_self (Obj.mapFields (·.setIfInBounds 1 (Value.ref g.objs.size))) e2 (Obj.isFreed_of_fields d3)
  have oth : ∀ b o, b ≠ e → g.get? b = some o → ((g.push tbo).update e (Obj.mapFields (·.setIfInBounds 1 (Value.ref g.objs.size)))).get? b = some o := fun b o nb hb => by
    rw [Heap.get?_update_other _ _ (Ne.symm nb)]; exact Heap.get?_push_of_some _ hb
  have nrec : ∀ b o, s.heap.get? b = some o → (∀ vs, o.data ≠ .fields vs) → b ≠ e := fun b o hb hnf z => by
    rw [z, ge] at hb; cases hb; exact hnf cells gd
  have up : s.heap.UpToSlots ((g.push tbo).update e (Obj.mapFields (·.setIfInBounds 1 (Value.ref g.objs.size)))) := fun b o hb hnf => by
    obtain ⟨sl, q⟩ := hg.2.2 b o hb
    exact ⟨sl, oth b _ (nrec b o hb hnf) q⟩
  have tbg : ((g.push tbo).update e (Obj.mapFields (·.setIfInBounds 1 (Value.ref g.objs.size)))).get? g.objs.size = some tbo := by
    rw [Heap.get?_update_other _ _ (Ne.symm nte)]
    exact Heap.get?_push_size g (Obj.isFreed_of_fields td)
  refine wpAny_setField e2 gd z1 (k _ ⟨fun b o hb => oth b o (fun z => by rw [z, ne] at hb; cases hb) (st1 b o hb), ne, ff.of_keeps fun b o hb hnf => ?_, ?_⟩ up)
  · obtain ⟨sl, q⟩ := up b o hb hnf
    exact ⟨_, q, rfl⟩
  · exact ⟨_, _, g.objs.size, tbo, tcs, e3, ⟨(Obj.cls_mapFields _ _).trans gc.1, (dict_mapF _ _).trans gc.2⟩, d3, by rw [Array.getElem?_setIfInBounds_ne (by decide)]; exact g2, by simp [z1], st1.fresh, nte, tbg, td, t3⟩
theorem note_new {ob : Obj} {cells : Array Value} (fr : A.frames = some (env :: outer)) (ff : s.heap.FunFrames B (env :: outer)) (ef : env.frame = some L)
    (ge : s.heap.get? e = some ob) (gc : ClsIs ob C) (st : B.StaysIn s.heap) (ne : B.get? e = none) (gd : ob.data = .fields cells) (g1 : cells[1]? = some .none) (g2 : cells[2]? = some .none)
    (k : ∀ h', Fly B (env :: outer) e C (rawInt L) h' → s.heap.UpToSlots h' → Q () { s with heap := h' }) : wpAny M A (noteFrame (.ref e) env) Q E s := by
  unfold noteFrame
  simp only [ef]
  refine wpAny_bind (wpAny_field ge gd g1 ?_)
  rw [if_neg (by decide)]
  exact noteTail fr ff ef ge gc st ne gd g2 k
theorem note_on (fr : A.frames = some (env :: outer)) (ef : env.frame = some L) (F : Fly B (env :: outer) e C .none s.heap)
    (k : ∀ h', Fly B (env :: outer) e C (rawInt L) h' → s.heap.UpToSlots h' → Q () { s with heap := h' }) : wpAny M A (noteFrame (.ref e) env) Q E s := by
  obtain ⟨st, ne, ff, ob, cells, tb, ot, tcs, ge, gc, gd, g2, g1, nb, nte, gt, td, t3⟩ := F
  unfold noteFrame
  simp only [ef]
  refine wpAny_bind (wpAny_field ge gd g1 ?_)
  rw [if_pos (by simp : (Value.ref tb != Value.none) = true)]
  refine wpAny_bind (wpAny_field gt td t3 ?_)
  rw [if_neg (by simp [rawInt] : ¬ ((Value.none == rawInt L) = true))]
  refine wpAny_bind (wpAny_setField gt td (Array.getElem?_eq_some_iff.mp t3).1 ?_)
  have oth : ∀ b, b ≠ tb → (s.heap.update tb (Obj.mapFields (·.setIfInBounds 3 Value.none))).get? b = s.heap.get? b := fun b hb => Heap.get?_update_other _ _ (Ne.symm hb)
  have nrec : ∀ b o, s.heap.get? b = some o → (∀ vs, o.data ≠ .fields vs) → b ≠ tb := fun b o hb hnf z => by
    rw [z, gt] at hb; cases hb; exact hnf tcs td
  exact noteTail fr (ff.of_keeps fun b o hb hnf => ⟨o, (oth b (nrec b o hb hnf)).trans hb, rfl⟩) ef ((oth e (Ne.symm nte)).trans ge) gc (fun b o hb => (oth b fun z => by rw [z, nb] at hb; cases hb).trans (st b o hb)) ne gd g2
    fun h' F' up => k h' F' fun b o hb hnf => up b o ((oth b (nrec b o hb hnf)).trans hb) hnf
theorem land_on {l : List Env} {fl : Value} (F : Fly B l e C fl s.heap) (k : ∀ h', Fly B l e C .none h' → s.heap.UpToSlots h' → Q () { s with heap := h' }) : wpAny M A (setFlight (.ref e) none) Q E s := by
  obtain ⟨st, ne, ff, ob, cells, tb, ot, tcs, ge, gc, gd, g2, g1, nb, nte, gt, td, t3⟩ := F
  have z3 : 3 < tcs.size := (Array.getElem?_eq_some_iff.mp t3).1
  have oth : ∀ b, b ≠ tb → (s.heap.update tb (Obj.mapFields (·.setIfInBounds 3 ((none : Option Addr).elim Value.none fun f => rawInt f)))).get? b = s.heap.get? b := fun b hb => Heap.get?_update_other _ _ (Ne.symm hb)
  have nrec : ∀ b o, s.heap.get? b = some o → (∀ vs, o.data ≠ .fields vs) → b ≠ tb := fun b o hb hnf z => by
    rw [z, gt] at hb; cases hb; exact hnf tcs td
  unfold setFlight
  refine wpAny_bind (wpAny_field ge gd g1 ?_)
  rw [if_pos (by simp : (Value.ref tb != Value.none) = true)]
  refine wpAny_setField gt td z3 (k _ ⟨fun b o hb => (oth b fun z => by rw [z, nb] at hb; cases hb).trans (st b o hb), ne, ff.of_keeps fun b o hb hnf => ⟨o, (oth b (nrec b o hb hnf)).trans hb, rfl⟩, ?_⟩ fun b o hb hnf => ⟨o.slots, (oth b (nrec b o hb hnf)).trans hb⟩)
  exact ⟨ob, cells, tb, _, _, (oth e (Ne.symm nte)).trans ge, gc, gd, g2, g1, nb, nte, Heap.get?_update_self _ gt (Obj.isFreed_of_fields (Obj.data_mapFields td _)), Obj.data_mapFields td _, by simp [z3]⟩
theorem Fly.down {l : List Env} {fl : Value} {h : Heap} (F : Fly B (env :: l) e C fl h) : Fly B l e C fl h := ⟨F.1, F.2.1, F.2.2.1.2.2, F.2.2.2⟩
theorem leave_new {h : Heap} {args : List Value} (fr : A.frames = some (env :: outer)) (ff : h.FunFrames B (env :: outer)) (ef : env.frame = some L) (st : B.StaysIn h) (mk : Heap.MadeExcOf h s.heap e (.ref C) args)
    (k : ∀ h', Fly B outer e C .none h' → s.heap.UpToSlots h' → Q () { s with heap := h' }) : wpAny M A (leaving env (.ref e)) Q E s := by
  obtain ⟨t, ge, _, _⟩ := mk.there
  have ne : B.get? e = none := by
    cases q : B.get? e with
    | none => rfl
    | some o => have := st e o q; rw [mk.new] at this; cases this
  unfold leaving
  exact wpAny_bind (note_new fr (ff.of_keeps fun b o hb _ => ⟨o, mk.keeps b o hb, rfl⟩) ef ge ⟨rfl, rfl⟩ (fun b o hb => mk.keeps b o (st b o hb)) ne rfl rfl rfl fun g F1 u1 => land_on F1 fun h' F2 u2 => k h' F2.down (u1.trans u2))
end
end L2
set_option Elab.async false
set_option linter.all false
set_option maxRecDepth 100000
set_option maxHeartbeats 4000000
namespace L2
open PySem PySem.Spec PyProof.Rows
section
variable {P : Program} {w : World} {H H' : Hp} {h h' B : Heap} {a : Addr} {o : HO}
theorem ObjOk.there (x : ObjOk P w H h a o) : ∃ u, h.get? a = some u := by
  cases o with
  | lst xs => obtain ⟨_, _, _, _, q⟩ := x; exact ⟨_, q⟩
  | tup xs => obtain ⟨_, _, _, ⟨u, q, _⟩⟩ := x; exact ⟨u, q⟩
  | dK kvs => obtain ⟨_, _, _, _, u, _, _, q, _⟩ := x; exact ⟨u, q⟩
  | dT kvs => obtain ⟨_, _, _, _, u, _, _, q, _⟩ := x; exact ⟨u, q⟩
  | set S n => obtain ⟨u, _, _, _, q, _⟩ := x; exact ⟨u, q⟩
  | ins C dx fs => obtain ⟨_, _, _, q, _⟩ := x; exact ⟨_, q⟩
  | own y => exact x
  | xd fs => obtain ⟨_, ⟨u, _, _, q, _⟩, _⟩ := x; exact ⟨u, q⟩
  | rng lo hi => obtain ⟨_, _, _, q⟩ := x; exact ⟨_, q⟩
  | frz ob u => obtain ⟨q, _⟩ := x; exact ⟨_, q⟩
  | tbl ps => exact ⟨_, (show h.get? a = some _ from x)⟩
  | met f y => exact ⟨_, (show h.get? a = some _ from x)⟩
  | ext φ => obtain ⟨_, q, _⟩ := x; exact q
theorem HOk.air (ok : HOk P w H h) (st : B.StaysIn h) (st' : B.StaysIn h') (cov : ∀ c, H c ≠ none → ∃ u, B.get? c = some u) : HOk P w H h' := fun b o e =>
  (ok b o e).stay (fun c u hc q => by
    have hn : H c ≠ none := by
      rcases hc with z | z
      · rw [z, e]; intro y; cases y
      · rw [z]; intro y; cases y
    obtain ⟨u', qB⟩ := cov c hn
    have := st c u' qB
    rw [q] at this; cases this
    exact st' c u qB) (fun _ z => z) fun _ _ z => z
end
noncomputable def CXE (P : Program) (w : World) : CXT := fun outer H s E e s' => ∃ (a C : Addr) (B : Heap) (H' : Hp), e = .ref a ∧ s'.os = s.os ∧ AllBare s'.gens ∧ Un (frs outer) [] H H' s.heap s'.heap ∧ HOk P w H' s'.heap ∧ Fly B outer a C .none s'.heap ∧
  (∀ c, H' c ≠ none → ∃ u, B.get? c = some u) ∧ (∀ b o, s.heap.get? b = some o → H b = none → b ∉ frs outer → B.get? b = some o) ∧ (∀ b o, s.heap.get? b = some o → b ∉ frs outer → ∃ o', B.get? b = some o') ∧ E (.ref C) none H'
section
variable {P : Program} {w : World} {K : PySem.W.Frag} {mg : Str → Option Value} {base : Heap} {N : List Str} {qual : Str} {scope : Scope} {f : Addr} {cd : Value} {A : Around} {outer : List Env} {s0 : Shared} {H0 : Hp} {E : XK}
theorem nonf {h : Heap} {bb : Heap} {l : List Env} {b : Addr} {o : Obj} (ff : h.FunFrames bb l) (hb : b ∈ frs l) (q : h.get? b = some o) : ∀ vs, o.data ≠ .fields vs := by
  obtain ⟨_, o', q', n⟩ := ff.mem hb
  rw [q] at q'; cases q'
  exact n
theorem raise_cx {pins : List (Addr × Obj)} {σ : St} {H : Hp} {s : Shared} {h' : Heap} {e C : Addr} {args : List Value} (I : Inv (cxOf (CXE P w) P w K mg base N qual scope f cd A outer s0 H0 E) pins σ H s)
    (mk : Heap.MadeExcOf s.heap h' e (.ref C) args) (hE : E (.ref C) none H) : (cxOf (CXE P w) P w K mg base N qual scope f cd A outer s0 H0 E).xe (.ref e) { s with heap := h' } := by
  have nfree : ∀ b ∈ frs (envOfC qual scope s0.heap.objs.size f cd :: outer), H b = none := I.stkFree
  have ff : s.heap.FunFrames base (envOfC qual scope s0.heap.objs.size f cd :: outer) := I.stack
  have inB : ∀ b o, s.heap.get? b = some o → b ∉ frs (envOfC qual scope s0.heap.objs.size f cd :: outer) → (PySem.W.hideAll s.heap (frs (envOfC qual scope s0.heap.objs.size f cd :: outer))).get? b = some o := fun b o q n => PySem.W.hideAll_get _ q n
  have st : (PySem.W.hideAll s.heap (frs (envOfC qual scope s0.heap.objs.size f cd :: outer))).StaysIn s.heap := fun b o q => PySem.W.of_hideAll _ q
  have cov : ∀ c, H c ≠ none → ∃ u, (PySem.W.hideAll s.heap (frs (envOfC qual scope s0.heap.objs.size f cd :: outer))).get? c = some u := fun c hc => by
    cases q : H c with
    | none => exact absurd q hc
    | some o =>
      obtain ⟨u, hu⟩ := (I.hok c o q).there
      exact ⟨u, inB c u hu fun z => hc (nfree c z)⟩
  have old : ∀ b o, s0.heap.get? b = some o → b ∉ frs outer → b ∉ frs (envOfC qual scope s0.heap.objs.size f cd :: outer) := fun b o q n z => by
    rcases List.mem_cons.mp (show b ∈ s0.heap.objs.size :: frs outer from z) with y | y
    · exact Nat.lt_irrefl _ (Nat.lt_of_lt_of_eq (Heap.lt_size q) y.symm)
    · exact n y
  refine leave_new (B := PySem.W.hideAll s.heap (frs (envOfC qual scope s0.heap.objs.size f cd :: outer))) (h := s.heap) I.ok.frames (PySem.W.funFrames_hide ff fun env he a ha => List.mem_filterMap.mpr ⟨env, he, ha⟩) rfl st mk fun h2 F up => ?_
  have cov2 : ∀ b o, s0.heap.get? b = some o → H0 b = none → b ∉ frs outer → (PySem.W.hideAll s.heap (frs (envOfC qual scope s0.heap.objs.size f cd :: outer))).get? b = some o := fun b o q n nb =>
    inB b o (I.base.keep b o q n nb (show b ∉ ([] : List Addr) by simp)) (old b o q nb)
  have cov3 : ∀ b o, s0.heap.get? b = some o → b ∉ frs outer → ∃ o', (PySem.W.hideAll s.heap (frs (envOfC qual scope s0.heap.objs.size f cd :: outer))).get? b = some o' := fun b o q nb => by
    obtain ⟨o', q'⟩ := I.base.there b o q (show b ∉ ([] : List Addr) by simp)
    exact ⟨o', inB b o' q' (old b o q nb)⟩
  have upf : ∀ b o, b ∈ frs outer → s.heap.get? b = some o → ∃ sl, h2.get? b = some { o with slots := sl } := fun b o hb q => up b o (mk.keeps b o q) (nonf ff (List.mem_cons_of_mem _ hb) q)
  refine ⟨e, C, _, H, rfl, I.os, I.bare, ⟨fun b o q n nb _ => F.1 b o (cov2 b o q n nb), fun b o q n hb nx => ?_, fun b o q n nx => I.base.free b o q n nx, fun b o q nx => ?_, I.base.tups, I.base.frzs, I.base.tbls⟩, I.hok.air st F.1 cov, F, cov, cov2, cov3, hE⟩
  · obtain ⟨sl, q1⟩ := I.base.slot b o q n hb nx
    obtain ⟨sl2, q2⟩ := upf b _ hb q1
    exact ⟨sl2, q2⟩
  · by_cases hb : b ∈ frs outer
    · obtain ⟨o', q1⟩ := I.base.there b o q nx
      obtain ⟨sl2, q2⟩ := upf b _ hb q1
      exact ⟨_, q2⟩
    · obtain ⟨o', q1⟩ := cov3 b o q hb
      exact ⟨o', F.1 b o' q1⟩
end
end L2
set_option Elab.async false
set_option linter.all false
set_option maxRecDepth 100000
set_option maxHeartbeats 4000000
namespace L2
open PySem PySem.Spec PyProof.Rows
noncomputable abbrev bmVE : List Value := [.type "ValueError", .type "Exception", .type "BaseException", .type "object"]
structure ExcC (K : PySem.W.Frag) (mg : Str → Option Value) (x : Str) (C : Addr) : Prop where
  at_ : mg x = some (.ref C)
  ok : PySem.W.excIn K C bmVE "ValueError.__new__" = true
theorem exc_obj {K : PySem.W.Frag} {h : Heap} {C : Addr} {bmB : List Value} {newId : String} (X : K.In h) (q : PySem.W.excIn K C bmB newId = true) :
    ∃ bm N nm qn bs hdct sn sub ab col dd k0 k1 k2 k3 k5, ∃ mN : Str → Option Value, h.get? C = some (excClassObj nm qn C N bs bm hdct sn sub ab col dd k0 k1 k2 k3 k5 newId) ∧ h.Ns N mN ∧ mN "__init__" = none ∧ OwnTail h bmB bm := by
  unfold PySem.W.excIn at q
  split at q
  · rename_i dd cd sl hk
    split at q
    · rename_i C' bm k0 k1 k2 k3 n k5 e1 e2
      simp only [Bool.and_eq_true, beq_iff_eq, Bool.not_eq_true'] at q
      obtain ⟨⟨⟨⟨⟨r1, r2⟩, r3⟩, r4⟩, r5⟩, r6⟩ := q
      subst r1 r2
      cases cd with
      | mk nm bs mro ns qn hdc sn sub ab col del =>
        dsimp only at e1 r3 r5 r6
        subst e1 r3
        have esl : sl = #[k0, k1, k2, k3, some (.builtin n), k5] := by
          cases sl with
          | mk l =>
            dsimp only at e2
            rw [e2]
        subst esl
        exact ⟨bm, ns, nm, qn, bs, hdc, sn, sub, ab, col, dd, k0, k1, k2, k3, k5, _, X _ _ hk, .of_isNs (PySem.W.isNs_of_in X r5), PySem.W.nsMap_none_of_in X r5 r6, PySem.W.tail_of_in X r4⟩
    · cases q
  · cases q
structure RaiseOk (X : Cx) (E : XK) : Prop where
  hd : X.A.handled = none
  out : ∀ (pins : List (Addr × Obj)) (σ : St) (H : Hp) (s : Shared) (h' : Heap) (e C : Addr) (args : List Value), Inv X pins σ H s → Heap.MadeExcOf s.heap h' e (.ref C) args → E (.ref C) none H → X.xe (.ref e) { s with heap := h' }
noncomputable def tRaise (E : XK) (C : Addr) : TS := fun _ _ H => E (.ref C) none H
section
variable {X : Cx} {E : XK} {x : Str} {C : Addr}
theorem ps_raise {z : Str} {j np cp cpos pos} (R : RaiseOk X E) (c : ExcC X.K X.mg x C) (hg : Gl X x := by rfl) (hd : (x == ("__debug__" : Str)) = false := by decide) :
    PS X (.Raise (some (.Call (.Name x np) [.Constant (.str z) j cp] [] cpos)) none pos) (tRaise E C) := by
  intro pins s σ H D I h
  obtain ⟨bm, N, nm, qn, bs, hdct, sn, sub, ab, col, dd, k0, k1, k2, k3, k5, mN, hC, hN, hni, T⟩ := exc_obj I.ok.mod.kin c.ok
  refine wpAny_Raise_call_subT (C := C) (nm := nm) (q := qn) (N := N) (bs := bs) (bm := bm) (hdct := hdct) (sn := sn) (sub := sub) (ab := ab) (col := col) (dd := dd) (k0 := k0) (k1 := k1) (k2 := k2) (k3 := k3) (k5 := k5)
    PySem.F.excBase_ValueError (mN := mN) (T.hasType PySem.F.excBase_ValueError.hasBase) R.hd rfl hni (ld_glob I hg c.at_ ⟨rfl, ?_⟩ hd)
  refine Calls.evalArgs_plain (thn ((pa_cons pe_str pa_nil) cpos pins s σ H (fun vs H1 => vs = [.str z] ∧ H1 = H) I ⟨rfl, rfl⟩) fun us s1 hz50 => ?_)
  obtain ⟨vs, H1, I1, r, e1, e2⟩ := hz50
  subst e1 e2
  obtain ⟨u, rfl, _⟩ := r.one
  exact ⟨rfl, by show 1 ≤ sizeLine; decide, I1.bk _ _ hC, hN.keeps I1.bk, T.keeps I1.bk, fun h' e mk => R.out pins σ _ s1 h' e C _ I1 mk h⟩
end
section
variable {P : Program} {w : World} {K : PySem.W.Frag} {mg : Str → Option Value} {base : Heap}
theorem raiseOk_cx {N : List Str} {qual : Str} {scope : Scope} {f : Addr} {cd : Value} {A : Around} {outer : List Env} {s0 : Shared} {H0 : Hp} {E : XK} {k : Nat} (hr : Room k (A.deeper (envOfC qual scope s0.heap.objs.size f cd))) :
    RaiseOk (cxOf (CXE P w) P w K mg base N qual scope f cd A outer s0 H0 E) E := ⟨hr.hd, fun _ _ _ _ _ _ _ _ I mk hE => raise_cx I mk hE⟩
theorem Fun.okX {x qual : Str} {st : Stmt} {f : Addr} {fd : FuncData} {N ps : List Str} {k : Nat} {sp : Sp} (F : Fun K x qual st f fd) (S : FnScope N ps (defScope st)) (len : ∀ vs H Q E, sp vs H Q E → vs.length = ps.length)
    (hbody : ∀ (cdv : Value) (A : Around) (outer : List Env) (s : Shared) (H : Hp) (vs : List V) (Q : VK) (E : XK), Room k (A.deeper (envOfC qual (defScope st) s.heap.objs.size f cdv)) → sp vs H Q E →
      ∃ t, PSs (cxOf (CXE P w) P w K mg base N qual (defScope st) f cdv A outer s H E) (defBody st) t ∧ t { nx := fun _ H' => Q .non H', rt := Q } (start N vs) H) : FnOk P w K mg base (CXE P w) (k + 1) f fd ps sp := by
  obtain ⟨oc, od, kV, doc, pm, an, cdv, ct, osl, rfl, lk, hcd⟩ := F.ex
  exact fn_of lk hcd S len fun A outer s H vs Q E hr hsp => hbody cdv A outer s H vs Q E hr hsp
end
section
variable {X : Cx} {k : Nat} {C : Addr} {ps : List Str} {sp : Sp} {E : XK} {x m : Str} {p pos apos : Pos} {o e : Expr} {es : List Expr} {ta : TE} {t : TA}
theorem pe_mkX (D : MkCal X.prog X.w X.K X.mg X.base (CXE X.prog X.w) k C x ps sp) (hx : Passes (CXE X.prog X.w) X E) (hr : Room (k + 1) X.A) (ha : PA X (e :: es) t) (hg : Gl X x := by rfl)
    (hdb : (x == ("__debug__" : Str)) = false := by decide) (he : starEach (e :: es) X.env = (false, eval e X.env) :: starEach es X.env := by rfl) (hpl : (backTo pos (starEach es X.env)).any (·.1) = false := by rfl) :
    PE X (.Call (.Name x p) (e :: es) [] pos) (tMake C sp [] E t) :=
  let ⟨_, _, F, M', hm, hb⟩ := D.ex
  pe_make M' F hr hg hm hb .nil hx ha hdb he hpl
end
end L2
set_option Elab.async false
set_option linter.all false
set_option maxRecDepth 100000
set_option maxHeartbeats 4000000
namespace L2
open PySem PySem.Spec PyProof.Rows
noncomputable def excP (C a : Addr) : Heap → Prop := fun h => ∃ (ob : Obj) (cells : Array Value), h.get? a = some ob ∧ ClsIs ob C ∧ ob.data = .fields cells ∧ cells[2]? = some .none
noncomputable abbrev excO (C a : Addr) : HO := .ext (excP C a)
noncomputable abbrev XB (X : Cx) (pn' : List (Addr × Obj)) (xe' : Value → Shared → Prop) : Cx := { X with pn := pn', xe := xe' }
noncomputable abbrev XH (X : Cx) (pn' : List (Addr × Obj)) (a : Addr) : Cx := { X with pn := pn', A := X.A.mark (some (.ref a)), calm := false, xe := fun _ _ => False }
section
variable {X : Cx} {pins : List (Addr × Obj)} {σ : St} {H : Hp} {s : Shared}
theorem Inv.toB (I : Inv X pins σ H s) (xe' : Value → Shared → Prop) : Inv (XB X (X.pn ++ pins) xe') [] σ H s :=
  ⟨⟨I.ok.mod, I.ok.kind, I.ok.glob, I.ok.blt, I.ok.above, I.ok.inj, I.ok.has, I.ok.cab, I.ok.hd, I.ok.frames, I.ok.stk, I.ok.exf, I.ok.bs, I.ok.bsz, I.ok.noex, I.ok.exfs, I.ok.funs, I.ok.frf⟩,
    I.os, I.bare, I.base, I.loc, I.cell, I.free, I.freeC, fun p hp => I.pin p (by simpa using hp), I.hok, I.len⟩
theorem Inv.ofB {pins' : List (Addr × Obj)} {xe' : Value → Shared → Prop} (I : Inv (XB X (X.pn ++ pins) xe') pins' σ H s) : Inv X pins σ H s :=
  ⟨⟨I.ok.mod, I.ok.kind, I.ok.glob, I.ok.blt, I.ok.above, I.ok.inj, I.ok.has, I.ok.cab, I.ok.hd, I.ok.frames, I.ok.stk, I.ok.exf, I.ok.bs, I.ok.bsz, I.ok.noex, I.ok.exfs, I.ok.funs, I.ok.frf⟩,
    I.os, I.bare, I.base, I.loc, I.cell, I.free, I.freeC, fun p hp => I.pin p (List.mem_append_left _ hp), I.hok, I.len⟩
theorem Inv.toH (I : Inv X pins σ H s) (a : Addr) : Inv (XH X (X.pn ++ pins) a) [] σ H s :=
  ⟨⟨I.ok.mod, I.ok.kind, I.ok.glob, I.ok.blt, I.ok.above, I.ok.inj, I.ok.has, I.ok.cab, (fun z => by cases z), I.ok.frames, I.ok.stk, I.ok.exf, I.ok.bs, I.ok.bsz, I.ok.noex, I.ok.exfs, I.ok.funs, I.ok.frf⟩,
    I.os, I.bare, I.base, I.loc, I.cell, I.free, I.freeC, fun p hp => I.pin p (by simpa using hp), I.hok, I.len⟩
theorem Inv.ofH {a : Addr} {pins' : List (Addr × Obj)} {σ0 : St} {H0 : Hp} {s0 : Shared} (I0 : Inv X pins σ0 H0 s0) (I : Inv (XH X (X.pn ++ pins) a) pins' σ H s) : Inv X pins σ H s :=
  ⟨I0.ok, I.os, I.bare, I.base, I.loc, I.cell, I.free, I.freeC, fun p hp => I.pin p (List.mem_append_left _ hp), I.hok, I.len⟩
theorem Inv.lose {h' : Heap} {m' : Str → Option Value} (I : Inv X pins σ H s) (sb : Heap.SameBut X.env.locals s.heap h') (hn : h'.Ns X.env.locals m') : Inv X pins (List.replicate X.N.length none) H { s with heap := h' } := by
  have same : ∀ b, b ≠ X.env.locals → h'.get? b = s.heap.get? b := fun b hb => sb.2 b hb
  have neL : ∀ b o, X.s₀.heap.get? b = some o → b ≠ X.env.locals := fun b o q => Nat.ne_of_lt (Nat.lt_of_lt_of_le (Heap.lt_size q) I.ok.above)
  refine ⟨I.ok, I.os, I.bare, ⟨fun b o q n nb nx => (same b (neL b o q)).trans (I.base.keep b o q n nb nx), fun b o q n hb nx => ?_, I.base.free, fun b o q nx => ?_, I.base.tups, I.base.frzs, I.base.tbls⟩, ⟨m', hn, fun i x v e1 e2 _ => ?_⟩, fun x c e => ?_, I.free, I.freeC, fun p hp => ?_, fun b o q => ?_, by simp⟩
  · obtain ⟨sl, z⟩ := I.base.slot b o q n hb nx
    exact ⟨sl, (same b (neL b o q)).trans z⟩
  · obtain ⟨o', z⟩ := I.base.there b o q nx
    exact ⟨o', (same b (neL b o q)).trans z⟩
  · rw [List.getElem?_replicate] at e2
    split at e2 <;> cases e2
  · obtain ⟨v, o, q, d⟩ := I.cell x c e
    exact ⟨v, o, (same c (I.cne x c e)).trans q, d⟩
  · obtain ⟨e, n, ne, nf, d⟩ := I.pin p hp
    exact ⟨(same _ ne).trans e, n, ne, nf, d⟩
  · refine (I.hok b o q).stay (fun c u hc z => (same c fun y => ?_).trans z) (fun _ z => z) fun _ _ z => z
    have f0 := I.free
    rcases hc with r | r
    · rw [← r, y, f0] at q; cases q
    · rw [y, f0] at r; cases r
end
theorem Inv.caught {X : Cx} {pins : List (Addr × Obj)} {σ : St} {H H' : Hp} {s s1 : Shared} {a C : Addr} {B h4 : Heap} (I : Inv X pins σ H s) (os : s1.os = s.os) (bare : AllBare s1.gens) (u : Un (frs X.stack) [] H H' s.heap s1.heap)
    (hok : HOk X.prog X.w H' s1.heap) (F : Fly B X.stack a C .none s1.heap) (cov : ∀ c, H' c ≠ none → ∃ v, B.get? c = some v) (cov2 : ∀ b o, s.heap.get? b = some o → H b = none → b ∉ frs X.stack → B.get? b = some o)
    (cov3 : ∀ b o, s.heap.get? b = some o → b ∉ frs X.stack → ∃ o', B.get? b = some o') (F4 : Fly B X.stack a C .none h4) (up : s1.heap.UpToSlots h4) :
    H' a = none ∧ Inv X pins σ (upd H' a (excO C a)) { s1 with heap := h4 } := by
  have ha : H' a = none := by
    cases q : H' a with
    | none => rfl
    | some o =>
      obtain ⟨v, hv⟩ := cov a (by rw [q]; intro z; cases z)
      rw [F.2.1] at hv; cases hv
  have nfr : a ∉ frs X.stack := fun z => by
    obtain ⟨ob, cells, tb, ot, tcs, q1, _, q2, _⟩ := F.2.2.2
    exact nonf F.2.2.1 z q1 cells q2
  have new : ∀ b o, s.heap.get? b = some o → b ≠ a := fun b o q z => by
    subst z
    obtain ⟨o', q'⟩ := cov3 b o q nfr
    rw [F.2.1] at q'; cases q'
  have ne : ∀ b o, H' b = some o → b ≠ a := fun b o q z => by rw [z, ha] at q; cases q
  have upf : ∀ b o, b ∈ frs X.stack → s1.heap.get? b = some o → ∃ sl, h4.get? b = some { o with slots := sl } := fun b o hb q => up b o q (nonf F.2.2.1 hb q)
  refine ⟨ha, I.call' (s' := { s1 with heap := h4 }) (ch := []) os ⟨fun b o q n nb _ => F4.1 b o (cov2 b o q n nb), fun b o q n hb nx => ?_, fun b o q n nx => ?_, fun b o q nx => ?_, fun b xs q => ?_, fun b o v q => ?_, fun b ps q => ?_⟩ (fun b o q => ?_) bare fun b hb => absurd hb List.not_mem_nil⟩
  · obtain ⟨sl, q1⟩ := u.slot b o q n hb nx
    obtain ⟨sl2, q2⟩ := upf b _ hb q1
    exact ⟨sl2, q2⟩
  · rw [upd_ne (new b o q)]; exact u.free b o q n nx
  · by_cases hb : b ∈ frs X.stack
    · obtain ⟨o', q1⟩ := u.there b o q nx
      obtain ⟨sl2, q2⟩ := upf b _ hb q1
      exact ⟨_, q2⟩
    · obtain ⟨o', q1⟩ := cov3 b o q hb
      exact ⟨o', F4.1 b o' q1⟩
  · have q1 := u.tups b xs q
    rw [upd_ne (ne b _ q1)]; exact q1
  · have q1 := u.frzs b o v q
    rw [upd_ne (ne b _ q1)]; exact q1
  · obtain ⟨more, q1⟩ := u.tbls b ps q
    exact ⟨more, by rw [upd_ne (ne b _ q1)]; exact q1⟩
  · by_cases hb : b = a
    · subst hb
      rw [upd_same] at q
      cases q
      obtain ⟨ob, cells, tb, ot, tcs, q1, q2, q3, q4, _⟩ := F4.2.2.2
      refine ⟨⟨ob, cells, q1, q2, q3, q4⟩, ⟨ob, q1⟩, fun h1 h2 ⟨o1, c1, r1, r2, r3, r4⟩ k => ⟨o1, c1, k o1 r1, r2, r3, r4⟩⟩
    · rw [upd_ne hb] at q
      have z := (hok.air F.1 F4.1 cov) b o q
      exact z.stay (fun c v _ z => z) (fun c z => by rw [upd_ne (ne c _ z)]; exact z) fun c xs z => by rw [upd_ne (ne c _ z)]; exact z
noncomputable def tTry (Nn : Nat) (ci : Addr → Prop) (n : Nat) (tb : XK → TS) (th : Addr → TS) : TS := fun D σ H =>
  tb (fun cls _ H' => ∃ C, cls = .ref C ∧ ci C ∧ ∀ (a : Addr) (σ' : St), σ'.length = Nn → H' a = none → th a { nx := fun _ _ => False, rt := D.rt } (σ'.set n (some (.ref a))) (upd H' a (excO C a))) D σ H
theorem ps_try {X : Cx} {body : List Stmt} {b0 : Stmt} {suite : List Stmt} {T n : Str} {tp hp pos : Pos} {i : Nat} {DC : Addr} {tb : XK → TS} {th : Addr → TS}
    (hm : X.mg T = some (.ref DC)) (hN : X.N.Nodup) (hi : X.N[i]? = some n) (hl : X.env.kindOf n = some .local)
    (hb : ∀ (pn' : List (Addr × Obj)) (xe' : Value → Shared → Prop) (E1 : XK), Passes (CXE X.prog X.w) (XB X pn' xe') E1 → PSs (XB X pn' xe') body (tb E1))
    (hh : ∀ (pn' : List (Addr × Obj)) (a : Addr), PSs (XH X pn' a) (b0 :: suite) (th a)) (hg : Gl X T := by rfl) (hstk : X.stack = X.env :: X.outer := by rfl) (hfr : X.env.frame = some X.env.locals := by rfl) (hk : X.env.scope.kind = .function := by rfl) (hd : (T == ("__debug__" : Str)) = false := by decide) :
    PS X (.Try body [.ExceptHandler (some (.Name T tp)) (some n) (b0 :: suite) hp] [] [] pos) (tTry X.N.length (fun C => PySem.W.exmOne X.K (.ref C) (.ref DC) = some true) i tb th) := by
  intro pins s0 σ0 H0 D I0 h0
  refine wpAny_Try_except ?_
  have I1 := I0.toB (fun e s1 => ∃ σ H s, Inv X pins σ H s ∧ CXE X.prog X.w X.stack H s (fun cls _ H' => ∃ C, cls = .ref C ∧ PySem.W.exmOne X.K (.ref C) (.ref DC) = some true ∧ ∀ (a : Addr) (σ' : St), σ'.length = X.N.length → H' a = none → th a { nx := fun _ _ => False, rt := D.rt } (σ'.set i (some (.ref a))) (upd H' a (excO C a))) e s1)
  have run := hb _ _ _ (fun pins' σ H s e s' I z => ⟨σ, H, s, I.ofB, z⟩) [] s0 σ0 H0 D I1 h0
  refine wpAny_mono run (fun f s1 hs => ?_) fun e s1 hs => ?_
  · cases f with
    | next =>
      obtain ⟨σ', H', I', q⟩ := hs
      exact wpAny_execs_nil ⟨σ', H', I'.ofB, q⟩
    | brk => obtain ⟨σ', H', I', q⟩ := hs; exact ⟨σ', H', I'.ofB, q⟩
    | cont => obtain ⟨σ', H', I', q⟩ := hs; exact ⟨σ', H', I'.ofB, q⟩
    | ret v => obtain ⟨x, σ', H', I', r, q⟩ := hs; exact ⟨x, σ', H', I'.ofB, r, q⟩
  · obtain ⟨σ, H, s, I, a, C, B, H', rfl, os, bare, u, hok, F, cov, cov2, cov3, C', eC, hex, hth⟩ := hs
    cases eC
    have Fs := F
    rw [hstk] at Fs
    refine note_on (by rw [I.ok.frames, hstk]) hfr Fs fun h2 F2 u2 => ?_
    refine land_on F2 fun h3 F3 u3 => ?_
    have F3' : Fly B X.stack a C .none h3 := by rw [hstk]; exact F3
    obtain ⟨ha, I3⟩ := I.caught os bare u hok F cov cov2 cov3 F3' (u2.trans u3)
    obtain ⟨ob, cells, tb', ot, tcs, ge, gc, _⟩ := id F3.2.2.2
    have LT : PySem.W.Looks (model X.prog X.w) h3 (typeOf (.ref a)) (.ref C) := by
      have z : PySem.W.Looks (model X.prog X.w) h3 (typeOf (.ref a)) ob.cls := (PySem.W.Looks.ld ge).andThen .now
      rw [gc.1] at z; exact z
    refine wpAny_handleBy_cons (codeAny_handlers_test ?_) (by intro z; cases z)
    refine ld_glob (I3.toH a) (show Gl (XH X (X.pn ++ pins) a) T from hg) hm ?_ hd
    refine PySem.W.exm_one (M := model X.prog X.w) I3.kIn LT hex _ _ _ _ (fun _ _ z => z) ?_
    refine codeAny_handlers_suite_as ?_
    refine land_on F3 fun h4 F4 u4 => ?_
    have F4' : Fly B X.stack a C .none h4 := by rw [hstk]; exact F4
    obtain ⟨_, I4⟩ := I.caught os bare u hok F cov cov2 cov3 F4' ((u2.trans u3).trans u4)
    refine store_ok I4 hN hi (.inl hl) (v := .ref a) rfl (fun s5 I5 => ?_) (.inr hl)
    refine wpAny_mono (hh (X.pn ++ pins) a [] s5 _ _ _ (I5.toH a) (hth a σ I.len ha)) (fun f s6 hs6 => ?_) fun _ _ z => z.elim
    cases f with
    | next => obtain ⟨_, _, _, z⟩ := hs6; exact z.elim
    | brk => obtain ⟨_, _, _, z⟩ := hs6; exact z.elim
    | cont => obtain ⟨_, _, _, z⟩ := hs6; exact z.elim
    | ret v =>
      obtain ⟨x6, σ6, H6, I6, r6, q6⟩ := hs6
      have I6' : Inv X pins σ6 H6 s6 := I4.ofH I6
      refine wpAny_bind (wpAny_bindName (store_ok I6' hN hi (.inl hl) (v := .non) rfl (fun s7 I7 => ?_) (.inr hl)))
      unfold unbindBehindTheSuite
      obtain ⟨m, hn, hlk⟩ := id I7.loc
      have hi' : (σ6.set i (some V.non))[i]? = some (some V.non) := by
        rw [List.getElem?_set_self]
        rw [I6'.len]; exact (List.getElem?_eq_some_iff.mp hi).1
      obtain ⟨v7, _, lk⟩ := hlk i n .non hi hi' (.inl hl)
      have hv : m n = some v7 := by
        rcases lk with ⟨_, z⟩ | ⟨z, _⟩
        · exact z
        · rcases z with z | z <;> (rw [hl] at z; cases z)
      refine wpAny_onRaise (wpAny_unbindName_local hl hn hv (by rw [hk]; rfl) fun h8 w8 hn8 sb8 => ?_)
      exact ⟨x6, _, H6, I7.lose sb8 hn8, r6, q6⟩
end L2
set_option Elab.async false
set_option linter.all false
set_option maxRecDepth 100000
set_option maxHeartbeats 4000000
namespace L2
open PySem PySem.Spec PyProof.Rows PySem.W
structure ExcK (K : Frag) (C : Addr) : Prop where
  ga : findIn K (.ref C) "__getattribute__" = some (some (.builtin "BaseException.__getattribute__"))
  gt : findIn K (.ref C) "__getattr__" = some none
  ca : findIn K (.ref C) "__class__" = some (some (.builtin "object.__class__"))
  sg : specialIn K (.builtin "object.__class__") "__get__" = some (some (.builtin "getset_descriptor.__get__"))
  tk : takesIn K (.builtin "object.__class__") = some true
  mo : mroIn K C (.type "object") = some true
  hd : hasDictIn K C = true
  be : subIn K (.ref C) (.type "BaseException") = some true
section
variable {prog : Program} {w : World} {A : Around} {E : Value → Shared → Prop} {K : Frag} {x C : Addr} {ox : Obj} {h : Heap} {g : Array GenState} {d : Drawn} {t : Nat} {os : OsState}
theorem exc_find (k : ExcK K C) : findObj K C none "__class__" = some (.bind (.builtin "getset_descriptor.__get__") (.builtin "object.__class__")) := by
  obtain ⟨cd, hc, _⟩ := any_some k.hd
  unfold findObj
  rw [hc, Option.bind_some, k.ca, Option.bind_some]
  simp [k.sg, k.tk]
theorem class_entry_exc {tok : Tok} {Q : Fin → Shared → Prop} (k : ExcK K C) (X : K.In h) (I : InstAt h x ox C none) (hq : Q (.done (.ret (.ref C))) ⟨h, g, d, t, os⟩) :
    wpAny (model prog w) A (Builtin.«object.__getattribute__» ⟨[.ref x, .str "__class__" tok], []⟩) Q E ⟨h, g, d, t, os⟩ := by
  have L0 := I.type (M := model prog w)
  have L1 := looks_find (M := model prog w) X I (exc_find k)
  unfold Builtin.«object.__getattribute__»
  repeat (any_goals (first | assumption | with_reducible refine L0.at ?_ | with_reducible refine L1.at ?_ | wp_step))
  exact class_get (s := ⟨h, g, d, t, os⟩) X I k.mo (wpAny_pure hq)
theorem check_ga_exc {M : Model} {nameV : Value} {Q : Unit → Shared → Prop} (k : ExcK K C) (X : K.In h) (I : InstAt h x ox C none) (hq : Q () ⟨h, g, d, t, os⟩) :
    wpAny M A (checkBuiltinCall "BaseException.__getattribute__" ⟨[.ref x, nameV], []⟩) Q E ⟨h, g, d, t, os⟩ := by
  have kd : builtinKind "BaseException.__getattribute__" = some .slot := by decide +kernel
  have sp : splitId "BaseException.__getattribute__" = some ("BaseException", "__getattribute__") := by decide +kernel
  have LI : Looks M h (isInstance (.ref x) (.type "BaseException")) true := (I.type (M := M)).andThen (looks_subIn X k.be)
  have ar := F.args_bexc_ga (.ref x) nameV
  simp only [checkBuiltinCall, kd, sp]
  refine wpAny_bind (LI.at ?_)
  repeat (any_goals (first | assumption | wp_step))
theorem class_call_exc {tok : Tok} {R : Result → Shared → Prop} (k : ExcK K C) (X : K.In h) (I : InstAt h x ox C none) (hq : R (.ok (.ret (.ref C))) ⟨h, g, d, t, os⟩) :
    codeAny (model prog w) A (.call (.builtin "BaseException.__getattribute__") ⟨[.ref x, .str "__class__" tok], []⟩) R ⟨h, g, d, t, os⟩ :=
  codeAny_call_builtin F.attrBase_ValueError.ga.plain F.entry_bexc_ga (check_ga_exc k X I (class_entry_exc k X I hq))
theorem class_by_exc {tok : Tok} {Q : Value → Shared → Prop} (k : ExcK K C) (X : K.In h) (I : InstAt h x ox C none) (hq : Q (.ref C) ⟨h, g, d, t, os⟩) :
    wpAny (model prog w) A (getAttrBy (.ref x) (.str "__class__" tok) false) Q E ⟨h, g, d, t, os⟩ := by
  have f3 := F.attrBase_ValueError.ga.bind (.ref x)
  have x2 : (Value.builtin "BaseException.__getattribute__" == Value.builtin "object.__getattribute__") = false := by decide +kernel
  have x1 : (onTheHeap (Value.ref C) && Value.builtin "BaseException.__getattribute__" == Value.builtin "object.__getattribute__") = false := by rw [x2]; rfl
  have L0 := I.type (M := model prog w)
  have L1 := looks_findIn (M := model prog w) X k.ga
  have L2 := looks_findIn (M := model prog w) X k.gt
  repeat (any_goals (first | assumption | with_reducible refine L0.at ?_ | with_reducible refine L1.at ?_ | with_reducible refine L2.at ?_ | wp_step))
  refine class_call_exc k X I ?_
  repeat (any_goals (first | assumption | wp_step))
theorem class_attr_exc {Q : Option Value → Shared → Prop} (k : ExcK K C) (X : K.In h) (I : InstAt h x ox C none) (hq : Q (some (.ref C)) ⟨h, g, d, t + 1, os⟩) :
    wpAny (model prog w) A (getAttr? (.ref x) "__class__") Q E ⟨h, g, d, t, os⟩ := by
  unfold getAttr? getAttrBy?
  repeat (any_goals (first | assumption | with_reducible apply class_by_exc k X I | wp_step))
theorem kitx_exc (k : ExcK K C) : KitX K (.ref x) (.ref C) (fun h => ∃ ox, InstAt h x ox C none) where
  ty := fun _ _ _ ⟨_, I⟩ => I.type
  it := fun _ _ X _ => by
    obtain ⟨cd, hc, _⟩ := any_some k.hd
    unfold clsIn at hc
    split at hc
    · rename_i c1 d1 cd1 sl1 hk
      intro A' Q' E' s' kk q
      unfold isType loadHead
      exact wpAny_bind (wpAny_loadPart (kk _ _ (X _ _ hk)) (wpAny_pure q))
    · cases hc
  ne := fun h tp dd its n sl X htp => by
    obtain ⟨cd, hc, _⟩ := any_some k.hd
    refine Bool.eq_false_iff.mpr fun q => ?_
    have e1 : C = tp := Value.ref.inj (beq_iff_eq.mp q)
    subst e1
    unfold clsIn at hc
    split at hc
    · rename_i c1 d1 cd1 sl1 hk
      cases ((X _ _ hk).symm.trans htp)
    · cases hc
  ca := fun {_ _ _ _ _ s} X ⟨ox, I⟩ hq => by
    obtain ⟨h, g, d, t, os⟩ := s
    exact class_attr_exc k X I hq
end
section
variable {X : Cx}
theorem exc_inst {C a : Addr} {h : Heap} (p : excP C a h) : ∃ ox, InstAt h a ox C none := by
  obtain ⟨ob, cells, q1, ⟨q2, q3⟩, q4, _⟩ := p
  refine ⟨ob, q1, q2, ?_, ?_⟩
  · unfold notCls
    rw [q4]
  · rw [q3]; trivial
noncomputable def rIsE (K : Frag) (c : V) (cv : Value) : List V → Hp → VK → Prop := fun xs H Q => ∃ a C b, xs = [.ref a, c] ∧ H a = some (excO C a) ∧ ExcK K C ∧ kitOne K (.ref C) cv = some b ∧ Q (.bl b) H
theorem call_isE {D : Addr} : CallR X (.builtin "isinstance") (rIsE X.K (.ref D) (.ref D)) := by
  intro pins s σ H xs us Q I r h
  obtain ⟨a, C, b, rfl, ha, k, e, q⟩ := h
  obtain ⟨u, v, rfl, ru, rv⟩ := r.two
  cases ru; cases rv
  obtain ⟨p, _, _⟩ := (show ObjOk X.prog X.w H s.heap a (excO C a) from I.hok a _ ha)
  exact kia_one (kitx_exc k) I.kIn (exc_inst p) e (fun z => nomatch z) fun tk => ⟨.bl b, H, I.tok tk, rfl, q⟩
theorem call_isET {T : String} : CallR X (.builtin "isinstance") (rIsE X.K (.ty T) (.type T)) := by
  intro pins s σ H xs us Q I r h
  obtain ⟨a, C, b, rfl, ha, k, e, q⟩ := h
  obtain ⟨u, v, rfl, ru, rv⟩ := r.two
  cases ru; cases rv
  obtain ⟨p, _, _⟩ := (show ObjOk X.prog X.w H s.heap a (excO C a) from I.hok a _ ha)
  exact kia_one (kitx_exc k) I.kIn (exc_inst p) e (fun z => nomatch z) fun tk => ⟨.bl b, H, I.tok tk, rfl, q⟩
end
end L2
set_option Elab.async false
set_option linter.all false
set_option maxRecDepth 100000
set_option maxHeartbeats 4000000
namespace L2
open PySem PySem.Spec PyProof.Rows
section
variable {prog : Program} {w : World} {A : Around} {E : Value → Shared → Prop} {s : Shared}
theorem entry_unchain : entryFor table "proto.unchain" = some Builtin.«proto.unchain» := entryFor_of_fast (by kernel_rfl)
theorem unchain_none {e hx : Addr} {ob : Obj} {cells : Array Value} {Q : Value → Shared → Prop} (gh : s.heap.get? hx = some ob) (gd : ob.data = .fields cells) (g2 : cells[2]? = some .none) (q : Q .none s) :
    wpAny (model prog w) A (runValue (.builtin "proto.unchain" ⟨[.ref e, .ref hx, .ref hx, .bool false], []⟩)) Q E s := by
  refine wpAny_runValue (codeAny_builtin entry_unchain ?_)
  unfold Builtin.«proto.unchain»
  refine wpAny_bind (wpAny_field gh gd g2 ?_)
  rw [if_pos (by rfl)]
  first | exact wpAny_pure q | (refine wpAny_bind ?_; exact wpAny_pure (wpAny_pure q)) | (repeat (any_goals (first | assumption | wp_step)))
theorem raise_handled {e hx : Addr} {oe ob : Obj} {cells ce : Array Value} {α : Type} {Q : α → Shared → Prop} (hh : A.handled = some (.ref hx)) (gh : s.heap.get? hx = some ob) (gd : ob.data = .fields cells) (g2 : cells[2]? = some .none)
    (ge : s.heap.get? e = some oe) (ged : oe.data = .fields ce) (gz : 2 < ce.size) (ne : hx ≠ e) (q : E (.ref e) { s with heap := s.heap.update e (Obj.mapFields (·.setIfInBounds 2 (.ref hx))) }) :
    wpAny (model prog w) A (raiseNew (.ref e) : Sem α) Q E s := by
  simp only [raiseNew]
  refine wpAny_bind (wpAny_handled ?_)
  rw [hh]
  have b1 : (Value.ref hx != Value.ref e) = true := by simp [ne]
  dsimp only
  rw [if_pos b1]
  refine wpAny_bind (wpAny_holding (unchain_none gh gd g2 ?_))
  refine wpAny_bind ?_
  unfold updateField
  refine wpAny_bind (wpAny_load ge ?_)
  rw [ged]
  dsimp only
  rw [if_pos gz]
  exact wpAny_update ge (wpAny_throw q)
theorem next_endH {it hx C : Addr} {x left step : Int} {Q : Option Value → Shared → Prop} (hh : A.handled = some (.ref hx)) (p : excP C hx s.heap) (hit : IsRangeIter s.heap it x left step) (hleft : left ≤ 0)
    (hQ : ∀ h', (∀ b o, s.heap.get? b = some o → h'.get? b = some o) → Q none { s with heap := h' }) : wpAny (model prog w) A (pyNext (.ref it)) Q E s := by
  have ty : s.TypeIs (.ref it) "range_iterator" := ⟨_, hit, rfl⟩
  obtain ⟨ob, cells, gh, _, gd, g2⟩ := p
  unfold pyNext
  refine wpAny_bind (wpAny_attempt (wpAny_callSpecial?_slot (name := Str.ofString "__next__") ty F.slot_range_iterator_next (wpAny_call_entry F.slot_range_iterator_next ty F.entry_range_iterator_next ?_ (F.args_range_iterator_next_1 _))))
  change wpAny _ _ (field (.ref it) 0 >>= _) _ _ s
  refine wpAny_bind (wpAny_field hit rfl (x := rawInt x) rfl (show wpAny _ _ (field (.ref it) 1 >>= _) _ _ s from wpAny_bind (wpAny_field hit rfl (x := rawInt left) rfl (show wpAny _ _ (field (.ref it) 2 >>= _) _ _ s from wpAny_bind (wpAny_field hit rfl (x := rawInt step) rfl ?_)))))
  change wpAny _ _ (if left ≤ 0 then _ else _) _ _ s
  rw [if_pos hleft]
  refine wpAny_bind (wpAny_rule (wpAny_bind ?_))
  change wpAny _ _ (newExc (.type "StopIteration") [] >>= _) _ _ _
  refine wpAny_bind ?_
  simp only [newExc, newTuple]
  refine wpAny_bind (wpAny_newObj_type (T := "tuple") ?_ (by size_fits))
  refine wpAny_bind (m := firstArgMember _ _) (wpAny_of_eq (a := Value.none) (by first | rfl | (simp only [firstArgMember]; rfl)) (wpAny_newObj_type ?_ (by size_fits)))
  generalize hp1 : (s.heap.push _ : Heap) = g1
  have k1 : ∀ b o, s.heap.get? b = some o → g1.get? b = some o := fun b o q => by rw [← hp1]; exact Heap.get?_push_of_some _ q
  generalize hob : ({ cls := Value.type "StopIteration", dict := none, data := _ } : Obj) = so
  have k2 : ∀ b o, s.heap.get? b = some o → (g1.push so).get? b = some o := fun b o q => Heap.get?_push_of_some _ (k1 b o q)
  have ged : ∃ ce : Array Value, so.data = .fields ce ∧ 2 < ce.size := ⟨_, by rw [← hob], by simp; omega⟩
  obtain ⟨ce, ged, gz⟩ := ged
  have ge : (g1.push so).get? g1.objs.size = some so := Heap.get?_push_size _ (Obj.isFreed_of_fields ged)
  have cl : so.cls = .type "StopIteration" := by rw [← hob]
  have nhx : hx ≠ g1.objs.size := Nat.ne_of_lt (Heap.lt_size (k1 _ _ gh))
  have up : ∀ b o, s.heap.get? b = some o → ((g1.push so).update g1.objs.size (Obj.mapFields (·.setIfInBounds 2 (.ref hx)))).get? b = some o := fun b o q => by
    rw [Heap.get?_update_other _ _ (Nat.ne_of_gt (Heap.lt_size (k1 b o q)))]; exact k2 b o q
  refine raise_handled (hx := hx) (oe := so) (ce := ce) hh (k2 _ _ gh) gd g2 ge ged gz nhx ?_
  dsimp only
  refine wpAny_bind (wpAny_isInstance (T := "StopIteration") (b := true) ⟨_, Heap.get?_update_self _ ge (Obj.isFreed_of_fields (Obj.data_mapFields ged _)), (Obj.cls_mapFields _ _).trans cl⟩ isSubtype_stop ?_)
  exact wpAny_pure (hQ _ up)
end
structure TurnH (hx : Addr) (P : Program) (w : World) (tg : Expr) (J : It) (fp : List Addr) (it : Addr) (tn : Nat → Heap → Prop) : Prop where
  mem : it ∈ fp
  obj : ∀ i h, tn i h → ∀ b ∈ fp, ∃ o, h.get? b = some o ∧ ∀ v, o.data ≠ .cell v
  keep : ∀ i h h', tn i h → (∀ b ∈ fp, ∀ o, h.get? b = some o → h'.get? b = some o) → tn i h'
  item : ∀ (X : Cx), X.prog = P → X.w = w → X.A.handled = some (.ref hx) → ∀ (i : Nat) (pins : List (Addr × Obj)) (s : Shared) (σ : St) (H : Hp) (E : Value → Shared → Prop), Inv X pins σ H s → (∀ b ∈ fp, FpOk X pins H b) → tn i s.heap → J.go i H →
    wpAny (model P w) X.A (pyNext (.ref it)) (fun r s1 => ∃ u, r = some u ∧
      wpAny (model P w) X.A (letOwnedTupleGo tg (.ref it) u) (fun _ s2 => ∃ x H', Inv X pins σ H' s2 ∧ RelV x u ∧ J.yld i H x H' ∧ tn (i + 1) s2.heap ∧ ∀ b ∈ fp, H' b = none) E s1) E s
  done : ∀ (X : Cx), X.prog = P → X.w = w → X.A.handled = some (.ref hx) → ∀ (i : Nat) (pins : List (Addr × Obj)) (s : Shared) (σ : St) (H : Hp) (E : Value → Shared → Prop), Inv X pins σ H s → (∀ b ∈ fp, FpOk X pins H b) → tn i s.heap → J.stop i H →
    wpAny (model P w) X.A (pyNext (.ref it)) (fun r s1 => r = none ∧ Inv X pins σ H s1) E s
  self : ∀ (A : Around) (i : Nat) (s : Shared) (Q : Value → Shared → Prop) (E : Value → Shared → Prop), tn i s.heap → Q (.ref it) s → wpAny (model P w) A (pyIter (.ref it)) Q E s
noncomputable def PIEH (hx : Addr) (X : Cx) (pins : List (Addr × Obj)) (σ : St) (tg : Expr) (R : It → Hp → Prop) (itv : Value) (s2 : Shared) : Prop :=
  ∃ (it : Addr) (fp : List Addr) (tn : Nat → Heap → Prop) (J : It) (H' : Hp), itv = .ref it ∧ Inv X pins σ H' s2 ∧ TurnH hx X.prog X.w tg J fp it tn ∧ tn 0 s2.heap ∧ (∀ b ∈ fp, FpOk X pins H' b) ∧ R J H'
noncomputable def PIH (hx : Addr) (X : Cx) (tg iter : Expr) (wi : TI) : Prop :=
  ∀ (pins : List (Addr × Obj)) (s : Shared) (σ : St) (H : Hp) (R : It → Hp → Prop), Inv X pins σ H s → wi σ H R →
    wpAny (model X.prog X.w) X.A (eval iter X.env) (fun v s1 => wpAny (model X.prog X.w) X.A (pyIter v) (PIEH hx X pins σ tg R) X.xe s1) X.xe s
noncomputable def ItrH (hx : Addr) (lo : Int) (n : Nat) : It := ⟨fun i _ => i < n, fun i H x H' => H' = H ∧ x = .int (lo + i), fun i H => n ≤ i ∧ ∃ C, H hx = some (excO C hx)⟩
theorem turn_rangeH {hx : Addr} {P : Program} {w : World} {tg : Expr} (it : Addr) (lo : Int) (n : Nat) : TurnH hx P w tg (ItrH hx lo n) [it] it (fun i h => IsRangeIter h it (lo + (i : Nat) * 1) ((n : Int) - (i : Nat)) 1) where
  mem := by simp
  obj := fun i h st b hb => by
    have e : b = it := by simpa using hb
    subst e
    exact ⟨_, st, fun v z => by
      have z' : Data.fields _ = Data.cell v := z
      cases z'⟩
  keep := fun i h h' st k => k it (by simp) _ st
  item := by
    intro X hP hw hc i pins s σ H E I hf st hg
    subst hP hw
    obtain ⟨f0, f1, f2, f3, f4, f5⟩ := hf it (by simp)
    refine wpAny_pyNext_range_item st (by have : i < n := hg; omega) fun h' st' sb => ?_
    have I1 : Inv X pins σ H { s with heap := h', toks := s.toks + 1 } := I.turned (fun b o hb e => (sb.2 b hb).trans e) f0 f1 f3 f4 f5
    have e1 : lo + ((i + 1 : Nat) : Int) * 1 = lo + (i : Int) * 1 + 1 := by omega
    have e2 : (n : Int) - ((i + 1 : Nat) : Int) = (n : Int) - (i : Int) - 1 := by omega
    have st2 : IsRangeIter h' it (lo + ((i + 1 : Nat) : Int) * 1) ((n : Int) - ((i + 1 : Nat) : Int)) 1 := by rw [e1, e2]; exact st'
    refine ⟨_, rfl, go_of (s := { s with heap := h', toks := s.toks + 1 }) (n := "range_iterator") st' rfl rfl (by decide) ⟨.int (lo + i), H, I1, ⟨s.toks, ?_⟩, ⟨rfl, rfl⟩, st2, fun b hb => (hf b hb).1⟩⟩
    rw [Int.mul_one]
  done := by
    intro X hP hw hc i pins s σ H E I hf st hg
    subst hP hw
    obtain ⟨f0, f1, f2, f3, f4, f5⟩ := hf it (by simp)
    obtain ⟨hn, C, hC⟩ := hg
    obtain ⟨p, _, _⟩ := (show ObjOk X.prog X.w H s.heap hx (excO C hx) from I.hok hx _ hC)
    exact next_endH hc p st (by omega) fun h' kk => ⟨rfl, I.kept (t' := s.toks) fun b o e => kk b o e⟩
  self := fun _ _ _ _ _ st h => wpAny_pyIter_rangeiter st h
section
variable {X : Cx} {tg : Expr} {hx : Addr}
theorem range_itH {pins : List (Addr × Obj)} {σ : St} {H : Hp} {s : Shared} {R : It → Hp → Prop} {E : Value → Shared → Prop} {lo hi : Int} {t u v : Tok} {tk : Nat} (I : Inv X pins σ H s) (h1 : -(2 ^ 62) ≤ lo) (h2 : lo < 2 ^ 62) (h3 : -(2 ^ 62) ≤ hi) (h4 : hi < 2 ^ 62)
    (q : R (ItrH hx lo (hi - lo).toNat) H) : wpAny (model X.prog X.w) X.A (pyIter (.ref s.heap.objs.size)) (PIEH hx X pins σ tg R) E { s with heap := s.heap.push { cls := .type "range", data := .fields #[.int lo t, .int hi u, .int 1 v] }, toks := tk } := by
  refine wpAny_pyIter_range (IsRange.new ..) (small_one h1 h2 h3 h4) ?_
  have I1 : Inv X pins σ H { s with heap := s.heap.push { cls := .type "range", data := .fields #[.int lo t, .int hi u, .int 1 v] }, toks := tk } := I.kept fun b o e => Heap.get?_push_of_some _ e
  refine ⟨(s.heap.push { cls := .type "range", data := .fields #[.int lo t, .int hi u, .int 1 v] }).objs.size, [(s.heap.push { cls := .type "range", data := .fields #[.int lo t, .int hi u, .int 1 v] }).objs.size], _, _, H, rfl,
    I1.kept (t' := tk) fun b o e => Heap.get?_push_of_some _ e, turn_rangeH _ lo (hi - lo).toNat, ?_, fun b hb => ?_, q⟩
  · have e1 : lo + ((0 : Nat) : Int) * 1 = lo := by simp
    have e2 : (((hi - lo).toNat : Nat) : Int) - ((0 : Nat) : Int) = Builtin.Range.rangeSize lo hi 1 := by rw [rangeSize_one]; split <;> omega
    show IsRangeIter _ _ (lo + ((0 : Nat) : Int) * 1) ((((hi - lo).toNat : Nat) : Int) - ((0 : Nat) : Int)) 1
    rw [e1, e2]
    exact Heap.get?_push_size _ rfl
  · have e : b = (s.heap.push { cls := .type "range", data := .fields #[.int lo t, .int hi u, .int 1 v] }).objs.size := by simpa using hb
    subst e
    exact I1.fpOk (Nat.le_refl _) (I1.hok.fresh (Nat.le_refl _))
noncomputable def iRng1H (hx : Addr) (ta : TA) : TI := fun σ H R => ta σ H fun vs H1 => ∃ j : Int, vs = [.int j] ∧ -(2 ^ 62) ≤ j ∧ j < 2 ^ 62 ∧ R (ItrH hx 0 j.toNat) H1
theorem pi_range1H {a : Expr} {ta : TA} {p pos : Pos} (hg : Gl X "range") (hm : X.mg "range" = none) (ha : PA X [a] ta) (hs : starEach [a] X.env = [(false, eval a X.env)] := by rfl) : PIH hx X tg (.Call (.Name "range" p) [a] [] pos) (iRng1H hx ta) := by
  intro pins s σ H R I h
  refine Call_ (ld_blt I hg hm boot_range (PyProof.Rows.callWith_type1 (thn (ha pos pins s σ H _ I h) fun us s1 hz51 => ?_) hs rfl))
  obtain ⟨vs, H1, I1, r1, q1⟩ := hz51
  obtain ⟨j, e, q1, q2, q⟩ := q1
  subst e
  obtain ⟨u, rfl, t, rfl⟩ := r1.one
  exact call_range_1 (range_itH I1 (by omega) (by omega) q1 q2 (by simpa using q))
end
theorem lc_coreH {ax : Addr} {X : Cx} {xs : List Str} {ix : List Nat} {scope : Scope} {elt tg iter : Expr} {ifs : List Expr} {pos : Pos} {wi : TI} {g : TG} {tt : TT} {te : TE}
    (S : CompScope X xs ix scope) (hc : X.A.handled = some (.ref ax)) (hi : PIH ax X tg iter wi)
    (hg : ∀ C fp s H, PG (cxC X xs ix scope C fp s H) tg g) (ht : ∀ C fp s H, PTs (cxC X xs ix scope C fp s H) ifs tt) (he : ∀ C fp s H, PE (cxC X xs ix scope C fp s H) elt te)
    {pins : List (Addr × Obj)} {s : Shared} {σ : St} {H : Hp} {Q : VK} (I : Inv X pins σ H s) (h : tLC xs ix wi g tt te σ H Q) {use : Option (Value → Sem Unit)} {R : Value → Shared → Prop}
    (fin : ∀ (acc C : Addr) (H' : Hp) (s' : Shared) (m : Str → Option Value), Q (.ref acc) H' → s'.heap.Ns C m → (∀ h', Heap.SameBut C s'.heap h' → ∀ tk, Inv X pins σ H' { s' with heap := h', toks := tk }) → (X.s₀.heap.objs.size ≤ C ∧ C ≠ X.env.locals ∧ (∀ x c, X.env.cells.lookup x = some c → c ≠ C) ∧ (∀ p ∈ X.pn ++ pins, p.1 ≠ C) ∧ H' C = none) → compPost (model X.prog X.w) X.A X.xe use R (.ref acc) C (.ok .next) s') :
    wpAny (model X.prog X.w) X.A (eval iter X.env) (fun x s₁ => wpAny (model X.prog X.w) X.A (pyIter x) (fun it s₂ => wpAny (model X.prog X.w) X.A (newList []) (fun acc s₃ =>
      wpAny (model X.prog X.w) X.A (newFunctionEnv scope X.env.globals (clF X.env scope.names []) [] X.env.qual none .none (some X.env)) (fun cenv s₄ =>
        codeAny (model X.prog X.w) X.A (.compStart (.ListComp elt [⟨tg, iter, ifs, 0⟩] scope pos) 0 it acc { cenv with scope := relabel scope X.env }) (compPost (model X.prog X.w) X.A X.xe use R acc cenv.locals) s₄) X.xe s₃) X.xe s₂) X.xe s₁) X.xe s :=
  lc_coreG (Reg := fun Y => Y.A.handled = some (.ref ax)) S (fun Y _ _ e => e.trans hc)
    (fun pins s σ H R I q => thn (hi pins s σ H R I q) fun v s1 h1 => thn h1 fun itv s2 h2 => by
      obtain ⟨it, fp, tn, J, H', e, I', T, r⟩ := h2
      exact ⟨it, fp, tn, J, H', e, I', ⟨T.mem, T.obj, T.keep, T.item, T.done, T.self⟩, r⟩) hg ht he I h fin
theorem ps_setLCH {ax : Addr} {X : Cx} {xs : List Str} {ix : List Nat} {scope : Scope} {elt tg iter : Expr} {ifs : List Expr} {cpos pos pos' : Pos} {wi : TI} {g : TG} {tt : TT} {te : TE} {i : Nat} {x : Str}
    (hN : X.N.Nodup) (hin : X.N[i]? = some x) (hx : Loc X.env.scope x)
    (S : CompScope X xs ix scope) (hc : X.A.handled = some (.ref ax)) (hi : PIH ax X tg iter wi)
    (hg : ∀ C fp s H, PG (cxC X xs ix scope C fp s H) tg g) (ht : ∀ C fp s H, PTs (cxC X xs ix scope C fp s H) ifs tt) (he : ∀ C fp s H, PE (cxC X xs ix scope C fp s H) elt te)
    (hsw : swapsWith (.ListComp elt [⟨tg, iter, ifs, 0⟩] scope cpos) (some (.Name x pos')) pos.line X.env = pure true)
    (hf : X.fn x = true ∨ X.env.scope.names.lookup x = some .local := by first | exact .inl rfl | exact .inr rfl | assumption)
    (hs : ∀ x, foldedSetIterable iter X.env x = pure x := by intro _; rfl) :
    PS X (.Assign [.Name x pos'] (.ListComp elt [⟨tg, iter, ifs, 0⟩] scope cpos) pos) (tAsg (tLC xs ix wi g tt te) (gName i)) := by
  intro pins s σ H D I h
  have hcl : ∀ n, (n, NameKind.free) ∈ scope.names → (X.env.cells.lookup n).isSome = true := fun n hn => by
    obtain ⟨c, e⟩ := I.ok.has n (S.fre n hn)
    rw [e]; rfl
  rw [exec_Assign_Name_used _ _ _ _ hsw]
  refine wpAny_bind (wpAny_standAt (wpAny_bind ?_))
  rw [arm_evalThenUse_ListComp]
  refine wpAny_bind (thn (Q := fun _ s' => SP X pins D .next s') (wpAny_comprehension_free (g := ⟨tg, iter, ifs, 0⟩) (gs := []) (use := some (assign (.Name x pos') X.env)) rfl hs (closureFor_clF hcl) S.kind S.loc ?_) fun _ s1 h1 => wpAny_pure (wpAny_pure h1))
  refine lc_coreH S hc hi hg ht he I h fun acc C H' s' m q hn k hC => ?_
  have I' : Inv X pins σ H' s' := k s'.heap (Heap.SameBut.refl _ _) s'.toks
  show wpAny (model X.prog X.w) X.A (assign (.Name x pos') X.env (.ref acc)) (fun _ s'' => ∃ m, s''.heap.Ns C m ∧ ∀ h', Heap.SameBut C s''.heap h' → SP X pins D .next { s'' with heap := h' }) X.xe s'
  refine wpAny_assign_Name (store_ok2 I' hN hin hx (v := .ref acc) rfl (fun s'' I'' hz52 => ?_) hf)
  obtain ⟨a, hsa, ha⟩ := hz52
  refine ⟨m, hn.sameBut hsa ?_, fun h' hsb => ⟨_, H', I''.letgo hsb hC, q⟩⟩
  rcases ha with rfl | ha
  · exact hC.2.1
  · exact fun z => hC.2.2.1 x a ha z.symm
structure RoomH (k : Nat) (A : Around) : Prop where
  dp : A.depth + 3 * k + 5 < recursionLimit
  un : A.units + 16 * k + 200 < cLine
theorem Room.toH {k : Nat} {A : Around} (r : Room k A) (o : Option Value) : RoomH k (A.mark o) := ⟨r.dp, r.un⟩
noncomputable abbrev SpH := Addr → List V → Hp → VK → Prop
structure FnOkH (P : Program) (w : World) (K : PySem.W.Frag) (mg : Str → Option Value) (base : Heap) (k : Nat) (f : Addr) (fd : FuncData) (ps : List Str) (sp : SpH) : Prop where
  len : ∀ hx vs H Q, sp hx vs H Q → vs.length = ps.length
  run : ∀ (hx : Addr) (A : Around) (outer : List Env) (s : Shared) (H : Hp) (args : Args) (us : List Value) (vs : List V) (Q : VK), RoomH k A → A.handled = some (.ref hx) → Env0 P w K mg base A outer s H → BindsTo s fd args (ps.zip us) → Vals vs us → sp hx vs H Q →
    codeAny (model P w) A (.call (.ref f) args) (CR CX0 outer P w H s Q (fun _ _ _ => False)) s
noncomputable def cxH (P : Program) (w : World) (K : PySem.W.Frag) (mg : Str → Option Value) (base : Heap) (N : List Str) (qual : Str) (scope : Scope) (f : Addr) (cd : Value) (A : Around) (outer : List Env) (s : Shared) (H : Hp) : Cx :=
  { cxOf CX0 P w K mg base N qual scope f cd A outer s H (fun _ _ _ => False) with calm := false, xe := fun _ _ => False }
theorem Fun.okH {P : Program} {w : World} {K : PySem.W.Frag} {mg : Str → Option Value} {base : Heap} {x qual : Str} {st : Stmt} {f : Addr} {fd : FuncData} {N ps : List Str} {k : Nat} {sp : SpH} (F : Fun K x qual st f fd) (S : FnScope N ps (defScope st)) (len : ∀ hx vs H Q, sp hx vs H Q → vs.length = ps.length)
    (hbody : ∀ (hx : Addr) (cdv : Value) (A : Around) (outer : List Env) (s : Shared) (H : Hp) (vs : List V) (Q : VK), A.handled = some (.ref hx) → sp hx vs H Q →
      ∃ t, PSs (cxH P w K mg base N qual (defScope st) f cdv A outer s H) (defBody st) t ∧ t { nx := fun _ H' => Q .non H', rt := Q } (start N vs) H) : FnOkH P w K mg base (k + 1) f fd ps sp := by
  obtain ⟨oc, od, kV, doc, pm, an, cdv, ct, osl, rfl, lk, hcd⟩ := F.ex
  refine ⟨len, fun hx A outer s H args us vs Q hr hh e0 hb r hsp => ?_⟩
  have hl := len _ _ _ _ hsp
  have KX : K.In s.heap := e0.mod.kin.keeps fun b o e => (e0.bs b o e).1
  have lim : s.heap.NoLimit := e0.mod.nolimit.keeps fun b o e => (e0.bs b o e).1
  have hkind : ∀ y ∈ ps.zip us, (defScope st).names.lookup y.1 = some .local ∨ ((defScope st).names.lookup y.1 = some .cell ∧ ((cellsFrom (s.heap.objs.size + 1) (defScope st).names []).lookup y.1).isSome = true) := fun ⟨n, v⟩ hy => by
    rcases S.par n (List.of_mem_zip hy).1 with q | q
    · exact .inl q
    · exact .inr ⟨q, PySem.W.cellsFrom_some _ _ _ (.inl q)⟩
  refine codeAny_call_function (by have := hr.dp; omega) (KX _ _ lk) rfl S.co S.gen rfl (PySem.W.codeRec_of KX hcd) (hb _ _ _ _ ?_)
  refine wpAny_newFunctionEnv_cells S.kind hkind fun env he s1 x => ?_
  subst he
  refine ⟨lim.keeps x.toInCall.keep, codeAny_func ?_⟩
  obtain ⟨t, ht, hq⟩ := hbody hx cdv A outer s H vs Q hh hsp
  have I0 : Inv (cxOf CX0 P w K mg base N qual (defScope st) f cdv { A with handled := none } outer s H (fun _ _ _ => False)) [] (start N vs) H s1 :=
    inv_start S rfl ⟨e0.frames, e0.mod, e0.bs, e0.bsz, e0.funs, e0.frf, e0.hok, e0.bare⟩ hl r x
  have I : Inv (cxH P w K mg base N qual (defScope st) f cdv A outer s H) [] (start N vs) H s1 :=
    ⟨⟨I0.ok.mod, I0.ok.kind, I0.ok.glob, I0.ok.blt, I0.ok.above, I0.ok.inj, I0.ok.has, I0.ok.cab, (fun z => by cases z), I0.ok.frames, I0.ok.stk, I0.ok.exf, I0.ok.bs, I0.ok.bsz, I0.ok.noex, I0.ok.exfs, I0.ok.funs, I0.ok.frf⟩,
      I0.os, I0.bare, I0.base, I0.loc, I0.cell, I0.free, I0.freeC, I0.pin, I0.hok, I0.len⟩
  refine wpAny_mono (ht [] s1 (start N vs) H _ I hq) (fun fl s' hs => ?_) fun e s' hs => hs.elim
  cases fl with
  | ret u =>
    obtain ⟨v, σ', H', J, rv, q⟩ := hs
    exact ⟨v, H', J.os, J.bare, J.base, J.hok, rv, q⟩
  | next =>
    obtain ⟨σ', H', J, q⟩ := hs
    exact ⟨V.non, H', J.os, J.bare, J.base, J.hok, rfl, q⟩
  | brk =>
    obtain ⟨_, _, _, q⟩ := hs
    exact q.elim
  | cont =>
    obtain ⟨_, _, _, q⟩ := hs
    exact q.elim
structure CalH (P : Program) (w : World) (K : PySem.W.Frag) (mg : Str → Option Value) (base : Heap) (k : Nat) (x : Str) (ps : List Str) (sp : SpH) : Prop where
  ex : ∃ (f : Addr) (fd : FuncData), FnOkH P w K mg base k f fd ps sp ∧ mg x = some (.ref f) ∧ PySem.W.keepIn K (.ref f) = true ∧ Binds K fd ps []
theorem FunG.okH {P : Program} {w : World} {K : PySem.W.Frag} {mg : Str → Option Value} {base : Heap} {x : Str} {st : Stmt} {N ps : List Str} {k : Nat} {sp : SpH} (G : FunG K mg x st ps) (S : FnScope N ps (defScope st)) (len : ∀ hx vs H Q, sp hx vs H Q → vs.length = ps.length)
    (hbody : ∀ (f hx : Addr) (cdv : Value) (A : Around) (outer : List Env) (s : Shared) (H : Hp) (vs : List V) (Q : VK), A.handled = some (.ref hx) → sp hx vs H Q →
      ∃ t, PSs (cxH P w K mg base N x (defScope st) f cdv A outer s H) (defBody st) t ∧ t { nx := fun _ H' => Q .non H', rt := Q } (start N vs) H) : CalH P w K mg base (k + 1) x ps sp := by
  obtain ⟨f, fd, F, hm, hb⟩ := G.ex
  exact ⟨f, fd, F.okH S len fun hx cdv A outer s H vs Q hh h => hbody f hx cdv A outer s H vs Q hh h, hm, F.kp, hb⟩
noncomputable def tCallH (hx : Addr) (sp : SpH) (t : TA) : TE := fun σ H Q => t σ H fun vs H1 => sp hx vs H1 Q
theorem pe_calH {X : Cx} {hx : Addr} {k : Nat} {x : Str} {ps : List Str} {sp : SpH} {p pos : Pos} {e : Expr} {es : List Expr} {t : TA} (D : CalH X.prog X.w X.K X.mg X.base k x ps sp) (hr : RoomH k X.A) (hh : X.A.handled = some (.ref hx)) (ha : PA X (e :: es) t) (hg : Gl X x := by rfl)
    (hdb : (x == ("__debug__" : Str)) = false := by decide) (he : starEach (e :: es) X.env = (false, eval e X.env) :: starEach es X.env := by rfl) (hpl : (backTo pos (starEach es X.env)).any (·.1) = false := by rfl) :
    PE X (.Call (.Name x p) (e :: es) [] pos) (tCallH hx sp t) := by
  obtain ⟨f, fd, F, hm, hk, hb⟩ := D.ex
  intro pins s σ H Q I h
  refine wpAny_Call_Name_kw (ld_glob I hg hm ?_ hdb)
  refine PySem.W.callWith_K (h₀ := X.base) I.ok.mod.kin hk (thn (ha pos pins s σ H _ I h) fun us s1 hz53 => ?_) he hpl
  obtain ⟨vs, H1, I1, r, q⟩ := hz53
  refine ⟨I1.kIn, ?_⟩
  have hl : us.length = ps.length := by rw [← r.length]; exact F.len _ _ _ _ q
  have hb' := hb s1 us I1.kIn (by simpa using hl)
  rw [List.append_nil] at hb'
  refine wpAny_call (codeAny_mono (F.run hx X.A X.stack s1 H1 ⟨us, []⟩ us vs Q hr hh I1.env0 hb' r q) fun r s' hq => ?_)
  cases r with
  | error e => exact hq.elim
  | ok fl =>
    cases fl with
    | ret u => exact I1.after hq
    | next => exact hq.elim
    | brk => exact hq.elim
    | cont => exact hq.elim
theorem ps_setLC1H {ax : Addr} {X : Cx} {N : List Str} {sc : Scope} {x y : Str} {ix : List Nat} {scope : Scope} {elt iter : Expr} {ifs : List Expr} {px cpos pos pos' : Pos} {wi : TI} {tt : TT} {te : TE} {i : Nat}
    (hc : X.A.handled = some (.ref ax)) (hN' : X.N.Nodup) (hin : X.N[i]? = some y) (hx : Loc X.env.scope y)
    (hS : CompS N sc [x] ix scope) (hi : PIH ax X (.Name x px) iter wi)
    (ht : ∀ C fp s H, PTs (cxC X [x] ix scope C fp s H) ifs tt) (he : ∀ C fp s H, PE (cxC X [x] ix scope C fp s H) elt te)
    (hN : X.N = N := by rfl) (hsc : X.env.scope = sc := by rfl)
    (hsw : swapsWith (.ListComp elt [⟨.Name x px, iter, ifs, 0⟩] scope cpos) (some (.Name y pos')) pos.line X.env = pure true := by rfl)
    (hf : X.fn y = true ∨ X.env.scope.names.lookup y = some .local := by first | exact .inl rfl | exact .inr rfl | assumption)
    (hs : ∀ x, foldedSetIterable iter X.env x = pure x := by intro _; rfl) :
    PS X (.Assign [.Name y pos'] (.ListComp elt [⟨.Name x px, iter, ifs, 0⟩] scope cpos) pos) (tAsg (tLC [x] ix wi (gName 0) tt te) (gName i)) := by
  have S := hS.at (X := X) hN hsc
  have hl : ∀ C fp s H, (cxC X [x] ix scope C fp s H).env.scope.names.lookup x = some .local := fun _ _ _ _ => lookup_relabel_local (S.own x (by simp))
  exact ps_setLCH hN' hin hx S hc hi (fun C fp s H => pg_name S.nd rfl (Or.inl (hl C fp s H)) (.inr (hl C fp s H))) ht he hsw hf hs
theorem lc_rangeH {hx : Addr} {xs : List Str} {ix : List Nat} {g : TG} {tt : TT} {te : TE} {lo : Int} {n : Nat} {σ : St} {H1 : Hp} {Q : VK} {acc : Addr} (hn : n < sizeLine) (Pv : Nat → List V → St → Hp → Prop)
    (h0 : Pv 0 [] (stC xs ix σ) (upd H1 acc (.lst [])))
    (hacc : ∀ i ys τ H, Pv i ys τ H → H acc = some (.lst ys) ∧ ys.length ≤ i)
    (hs : ∀ i ys τ H, i < n → Pv i ys τ H → g (.int (lo + i)) τ H fun τ2 H2 => tt τ2 H2 fun b H3 =>
      if b = true then te τ2 H3 fun y H4 => H4 acc = some (.lst ys) ∧ Pv (i + 1) (ys ++ [y]) τ2 (upd H4 acc (.lst (ys ++ [y]))) else Pv (i + 1) ys τ2 H3)
    (he : ∀ ys τ H, Pv n ys τ H → ∃ C, H hx = some (excO C hx))
    (hd : ∀ ys τ H, Pv n ys τ H → Q (.ref acc) H) : LCW (ItrH hx lo n) xs ix g tt te σ H1 acc Q :=
  lc_by hn (fun i => .int (lo + i)) Pv h0 hacc (fun i _ _ _ h _ => h) (fun i _ _ _ _ _ _ _ h => h) (fun ys τ H p => ⟨Nat.le_refl n, he ys τ H p⟩) hs hd
end L2
set_option Elab.async false
set_option linter.all false
set_option maxRecDepth 100000
set_option maxHeartbeats 4000000
namespace L2
open PySem PySem.Spec PyProof.Rows
section
variable {X : Cx} {es es1 : List Expr} {t t1 : TA}
theorem swL {es : List Expr} {p : Pos} {t : Option Expr} {n : Nat} {env : Env} : swapsWith (.List es p) t n env = pure false := rfl
inductive CV : Expr → V → Prop
  | str {z : Str} {j p} : CV (.Constant (.str z) j p) (.str z)
  | int {z : Int} {j p} : CV (.Constant (.int z) j p) (.int z)
  | bl {z : Bool} {j p} : CV (.Constant (.bool z) j p) (.bl z)
  | non {j p} : CV (.Constant .none j p) .non
inductive CVs : List Expr → List V → Prop
  | nil : CVs [] []
  | cons {e : Expr} {v : V} {es : List Expr} {vs : List V} (h : CV e v) (t : CVs es vs) : CVs (e :: es) (v :: vs)
noncomputable def tRun (vs : List V) (t : TA) : TA := fun σ H Q => t σ H (fun xs H1 => Q (vs ++ xs) H1)
theorem pa_run0 (h : PA X es t) {cs : List Expr} {vs : List V} (h0 : CVs cs vs) : PA X (cs ++ es) (tRun vs t) := by
  induction h0 with
  | nil => exact h
  | cons c _ ih =>
    cases c with
    | str => exact pa_cons pe_str ih
    | int => exact pa_cons pe_int ih
    | bl => exact pa_cons pe_bl ih
    | non => exact pa_cons pe_non ih
theorem pa_run (n : Nat) {vs : List V} (h0 : CVs (es.take n) vs) (h : PA X (es.drop n) t) : PA X es (tRun vs t) := by
  have z := pa_run0 h h0
  rwa [List.take_append_drop] at z
theorem ps_setL {i : Nat} {x : Str} {pos pos' lp : Pos} (hN : X.N.Nodup) (hi : X.N[i]? = some x) (hx : Loc X.env.scope x) (hf : X.fn x = true ∨ X.env.scope.names.lookup x = some .local) (h : PA X es t) :
    PS X (.Assign [.Name x pos'] (.List es lp) pos) (tAsg (tLst t) (gName i)) := ps_set hN hi hx (pe_lst h) swL hf
noncomputable def tAll (vs : List V) : TA := fun _ H Q => Q vs H
theorem pa_all {vs : List V} (h : CVs es vs) : PA X es (tAll vs) := by
  have z := pa_run0 (X := X) pa_nil h
  have e : tRun vs tNil = tAll vs := by
    funext σ H Q
    show Q (vs ++ []) H = Q vs H
    rw [List.append_nil]
  rwa [List.append_nil, e] at z
end
end L2
set_option Elab.async false
set_option linter.all false
set_option maxRecDepth 100000
set_option maxHeartbeats 4000000
namespace L2
open PySem PySem.Spec PyProof.Rows
section
variable {X : Cx}
end
end L2
set_option Elab.async false
set_option linter.all false
set_option maxRecDepth 100000
set_option maxHeartbeats 4000000
namespace L2
open PySem PySem.Spec PyProof.Rows PySem.Builtin.Str
theorem ix_same (n : Int) (L : Nat) (h : 0 ≤ n) : strSliceIndices none (some n) 1 L = strSliceIndices (some ((0 : Nat) : Int)) (some ((min n.toNat L : Nat) : Int)) 1 L := by
  obtain ⟨m, rfl⟩ := Int.eq_ofNat_of_zero_le h
  have n0 : ∀ k : Nat, ¬ ((k : Nat) : Int) < 0 := fun k => Int.not_lt.mpr (Int.natCast_nonneg k)
  have l0 : ∀ k : Nat, max (0 : Int) (k : Int) = (k : Int) := fun k => Int.max_eq_right (Int.natCast_nonneg k)
  have cm : ∀ x y : Nat, min (x : Int) (y : Int) = ((min x y : Nat) : Int) := fun x y => by
    rcases Nat.le_total x y with h | h
    · rw [Nat.min_eq_left h, Int.min_eq_left (Int.ofNat_le.mpr h)]
    · rw [Nat.min_eq_right h, Int.min_eq_right (Int.ofNat_le.mpr h)]
  unfold strSliceIndices
  dsimp only
  rw [Int.toNat_natCast, if_neg (n0 m), if_neg (n0 0), if_neg (n0 (min m L)), if_pos (by decide), if_pos (by decide), if_pos (by decide), cm, cm, cm, l0, l0, l0, Nat.zero_min, Nat.min_assoc, Nat.min_self]
  rfl
theorem slice_len (x : Str) (n : Int) (h : 0 ≤ n) : (Txt.slice x none (some n)).length = min n.toNat x.length := by
  have e := ix_same n x.length h
  have p := PySem.StrLaws.sliced_plain x (a := 0) (b := min n.toNat x.length) (Nat.zero_le _) (Nat.min_le_right _ _)
  unfold Txt.slice
  rw [e]
  split
  · rename_i q
    rw [PySem.StrLaws.strSliceIndices_plain (Nat.zero_le _) (Nat.min_le_right _ _)] at q
    simp at q
    omega
  · show (List.toArray _).size = _
    rw [p]
    simp [Str.length]
noncomputable def repS (x : Str) (n : Int) : Str := ⟨(List.replicate n.toNat x.cps).foldl (· ++ ·) #[]⟩
theorem rep_len (a : Array Nat) : ∀ (n : Nat) (acc : Array Nat), ((List.replicate n a).foldl (· ++ ·) acc).size = acc.size + n * a.size
  | 0, acc => by simp
  | n + 1, acc => by
    rw [List.replicate_succ, List.foldl_cons, rep_len a n]
    rw [Array.size_append, Nat.succ_mul]
    omega
theorem repS_len (x : Str) (n : Int) : (repS x n).length = n.toNat * x.length := by
  show ((List.replicate n.toNat x.cps).foldl (· ++ ·) #[]).size = _
  rw [rep_len]
  simp [Str.length]
noncomputable def rMulS : R2 := fun x y H Q => ∃ z n, x = .str z ∧ y = .int n ∧ 1 < n ∧ 1 ≤ z.length ∧ z.length * n.toNat ≤ 100000 ∧ Q (.str (repS z n)) H
theorem op_mulS {X : Cx} : OpR X (binaryOp .Mult) rMulS := by
  intro pins s σ H x y v u Q I rx ry h
  obtain ⟨z, n, rfl, rfl, hn, hz, hl, q⟩ := h
  obtain ⟨t, rfl⟩ := rx
  obtain ⟨t', rfl⟩ := ry
  have hm : n.toNat ≤ 100000 := Nat.le_trans (Nat.le_mul_of_pos_left _ hz) hl
  have hz2 : z.length ≤ 100000 := Nat.le_trans (Nat.le_mul_of_pos_right _ (by omega)) hl
  refine P.mul_str ?_ (fun _ _ => ?_) (fun _ _ => ?_) ?_
  · simp; omega
  · have : (z.length : Int) ≤ 100000 := by omega
    have h2 : (100000 : Int) ≤ (2 ^ 63 - 1) / n := by
      rw [Int.le_ediv_iff_mul_le (by omega)]
      have : n ≤ 100000 := by omega
      omega
    omega
  · unfold tooLong
    simp only [decide_eq_false_iff_not]
    rw [sizeLine_eq]
    omega
  · rw [if_neg (by omega), if_neg (by simp; omega)]
    refine ⟨?_, .str (repS z n), H, I.tok _, ⟨_, rfl⟩, q⟩
    show (repS z n).length ≤ sizeLine
    rw [repS_len, sizeLine_eq, Nat.mul_comm]
    omega
end L2
set_option Elab.async false
set_option linter.all false
set_option maxRecDepth 100000
namespace L2
open PySem PySem.W
noncomputable def excTab (K : Frag) (cs : List Addr) (cT : Addr) : Bool := (List.range 12).all fun i =>
  ((List.range 12).all fun j => kitOne K (.ref (cs.getD i 0)) (.ref (cs.getD j 0)) == some (decide (i = j))) && (kitOne K (.ref (cs.getD i 0)) (.type "ValueError") == some true) && (kitOne K (.ref (cs.getD i 0)) (.ref cT) == some true) &&
    (exmOne K (.ref (cs.getD i 0)) (.ref cT) == some true) && (i == 10 || excIn K (cs.getD i 0) bmVE "ValueError.__new__")
noncomputable def excOwn (K : Frag) (c : Addr) : Bool := (findIn K (.ref c) "__getattribute__" == some (some (.builtin "BaseException.__getattribute__"))) && (findIn K (.ref c) "__getattr__" == some none) && (findIn K (.ref c) "__class__" == some (some (.builtin "object.__class__"))) &&
  (mroIn K c (.type "object") == some true) && hasDictIn K c && (subIn K (.ref c) (.type "BaseException") == some true)
noncomputable def excAll (K : Frag) (cs : List Addr) : Bool := (specialIn K (.builtin "object.__class__") "__get__" == some (some (.builtin "getset_descriptor.__get__"))) && (takesIn K (.builtin "object.__class__") == some true) && (List.range 12).all fun i => excOwn K (cs.getD i 0)
section
variable {K : Frag} {cs : List Addr} {cT : Addr}
theorem tab_at (h : excTab K cs cT = true) {i : Nat} (hi : i < 12) : ((((∀ j, j < 12 → kitOne K (.ref (cs.getD i 0)) (.ref (cs.getD j 0)) = some (decide (i = j))) ∧ kitOne K (.ref (cs.getD i 0)) (.type "ValueError") = some true) ∧ kitOne K (.ref (cs.getD i 0)) (.ref cT) = some true) ∧
    exmOne K (.ref (cs.getD i 0)) (.ref cT) = some true) ∧ (i = 10 ∨ excIn K (cs.getD i 0) bmVE "ValueError.__new__" = true) := by
  have q := List.all_eq_true.mp h i (List.mem_range.mpr hi)
  simp only [Bool.and_eq_true, Bool.or_eq_true, beq_iff_eq] at q
  refine ⟨⟨⟨⟨fun j hj => ?_, q.1.1.1.2⟩, q.1.1.2⟩, q.1.2⟩, q.2⟩
  exact beq_iff_eq.mp (List.all_eq_true.mp q.1.1.1.1 j (List.mem_range.mpr hj))
theorem tab_kd (h : excTab K cs cT = true) {i j : Nat} (hi : i < 12) (hj : j < 12) : kitOne K (.ref (cs.getD i 0)) (.ref (cs.getD j 0)) = some (decide (i = j)) := (tab_at h hi).1.1.1.1 j hj
theorem tab_kv (h : excTab K cs cT = true) {i : Nat} (hi : i < 12) : kitOne K (.ref (cs.getD i 0)) (.type "ValueError") = some true := (tab_at h hi).1.1.1.2
theorem tab_ex (h : excTab K cs cT = true) {i : Nat} (hi : i < 12) : exmOne K (.ref (cs.getD i 0)) (.ref cT) = some true := (tab_at h hi).1.2
theorem tab_ok (h : excTab K cs cT = true) {i : Nat} (hi : i < 12) (n : i ≠ 10) : excIn K (cs.getD i 0) bmVE "ValueError.__new__" = true := (tab_at h hi).2.resolve_left n
theorem all_ek (h : excAll K cs = true) {i : Nat} (hi : i < 12) : ExcK K (cs.getD i 0) := by
  unfold excAll at h
  simp only [Bool.and_eq_true, beq_iff_eq] at h
  have q := List.all_eq_true.mp h.2 i (List.mem_range.mpr hi)
  unfold excOwn at q
  simp only [Bool.and_eq_true, beq_iff_eq] at q
  exact ⟨q.1.1.1.1.1, q.1.1.1.1.2, q.1.1.1.2, h.1.1, h.1.2, q.1.1.2, q.1.2, q.2⟩
end
end L2
set_option Elab.async false
set_option linter.all false
set_option maxRecDepth 100000
set_option maxHeartbeats 4000000
namespace PySem.SeqAt
open AutoSeq1 (wpAny_loadPart')
open MeetsSeq
end PySem.SeqAt
namespace L2
open PySem PySem.Spec PyProof.Rows
section
variable {X : Cx}
end
end L2
namespace HT
open PySem PySem.Spec PyProof.Rows L2
section
variable {prog : Program} {w : World} {A : Around} {E : Value → Shared → Prop} {s : Shared}
end
end HT
namespace L2
open PySem PySem.Spec PyProof.Rows
end L2
set_option Elab.async false
set_option linter.all false
set_option maxRecDepth 100000
set_option maxHeartbeats 4000000
namespace L2
open PySem PySem.Spec PyProof.Rows
section
variable {X : Cx} {e : Expr} {te : TE} {pos p1 p2 p3 : Pos} {j1 : Nat}
end
end L2
set_option Elab.async false
set_option linter.all false
set_option maxRecDepth 100000
set_option maxHeartbeats 4000000
namespace L2
open PySem PySem.Spec PyProof.Rows PySem.W
section
variable {lt : Nat → Nat → Bool}
section
variable {n : Nat} (h1 : 1 ≤ n)
include h1
end
end
end L2
set_option Elab.async false
set_option linter.all false
set_option maxRecDepth 100000
set_option maxHeartbeats 4000000
namespace L2
open PySem PySem.Spec PyProof.Rows PySem.W
noncomputable def ltS (a b : Str) : Bool := decide (a.cps.toList < b.cps.toList)
theorem ltS_trn {a b c : Str} (h1 : ltS b a = false) (h2 : ltS c b = false) : ltS c a = false := KeyOrd.kle_trans (O := strKind.toKeyOrd) (a := a.cps.toList) (b := b.cps.toList) (c := c.cps.toList) h1 h2
noncomputable def Asc {α : Type} (lt : α → α → Bool) (l : List α) : Prop := l.Pairwise fun a b => lt b a = false
theorem rising_asc : ∀ (l : List Str) (p : Str), risingS p l = true → Asc ltS (p :: l)
  | [], p, _ => List.pairwise_singleton _ _
  | x :: r, p, h => by
    unfold risingS at h
    obtain ⟨h1, h2⟩ := Bool.and_eq_true_iff.mp h
    have ih := rising_asc r x h2
    have hpx : ltS x p = false := by
      rw [ltCps_eq] at h1
      simpa [ltS] using h1
    refine List.pairwise_cons.mpr ⟨fun y hy => ?_, ih⟩
    rcases List.mem_cons.mp hy with rfl | hy
    · exact hpx
    · exact ltS_trn hpx ((List.pairwise_cons.mp ih).1 y hy)
theorem sorted_asc (l : List Str) (h : sortedS l = true) : Asc ltS l := by
  cases l with
  | nil => exact .nil
  | cons x r => exact rising_asc r x h
theorem vals_strs : ∀ {us : List Value} {ys : List Str}, StrsAre us ys → Vals (ys.map V.str) us
  | _, _, .nil => .nil
  | _, _, .cons _ _ h => .cons ⟨_, rfl⟩ (vals_strs h)
section
variable {X : Cx}
theorem call_sortedS : CallR X (.builtin "sorted") (fun xs H Q => ∃ (a : Addr) (zs : List Str), xs = [.ref a] ∧ H a = some (.lst (zs.map V.str)) ∧ zs.length < 64 ∧
    ∀ (l : Addr) (ys : List Str), H l = none → ys.Perm zs → Asc ltS ys → Q (.ref l) (upd H l (.lst (ys.map V.str)))) := by
  intro pins s σ H xs us Q I r h
  obtain ⟨a, zs, rfl, hS, hz, q⟩ := h
  obtain ⟨u, rfl, rx⟩ := vals1 r
  cases rx
  obtain ⟨its, r', pl, hzl⟩ := I.list (.of hS)
  have hst := strs_of r'
  have hl : its.length = zs.length := by have := r'.length; rw [List.length_map] at this; exact this.symm
  refine sorted_strs pl.isList hst (by omega) fun out ss a1 a2 a3 => ?_
  obtain ⟨e, he⟩ := sortedAll_at s.heap its out
  have le : ss.length = zs.length := a2.length_eq
  refine ⟨.ref (s.heap.objs.size + 1), _, I.laid (t' := s.toks) (h' := sortedAll s.heap its out) (o := .lst (ss.map V.str)) (fun b o z => sortedAll_old z) (Nat.le_succ _) ?_, rfl, q _ ss (I.hok.fresh (Nat.le_succ _)) a2 (sorted_asc _ a3)⟩
  exact ⟨by rw [List.length_map, sizeLine_eq]; omega, out.toList, e, vals_strs a1, by rw [Array.toArray_toList]; exact he⟩
end
section
variable {prog : Program} {w : World} {A : Around} {E : Value → Shared → Prop} {s : Shared}
end
section
variable {X : Cx} {pins : List (Addr × Obj)} {σ : St} {H : Hp} {s : Shared}
end
end L2
set_option Elab.async false
set_option linter.all false
set_option maxRecDepth 100000
set_option maxHeartbeats 4000000
namespace L2
open PySem PySem.Spec PyProof.Rows PySem.W
noncomputable def metS (val : Nat → Str) : Nat → List Str
  | 0 => []
  | i + 1 => if (metS val i).any (· == val i) then metS val i else metS val i ++ [val i]
theorem metS_any (val : Nat → Str) (i : Nat) (k : Str) : (metS val (i + 1)).any (· == k) = ((metS val i).any (· == k) || k == val i) := by
  show (if (metS val i).any (· == val i) then metS val i else metS val i ++ [val i]).any (· == k) = _
  by_cases h : (metS val i).any (· == val i) = true
  · rw [if_pos h]
    by_cases hk : k = val i
    · subst hk; rw [h]; simp
    · rw [show (k == val i) = false by simpa using hk, Bool.or_false]
  · rw [if_neg h, List.any_append]
    simp only [List.any_cons, List.any_nil, Bool.or_false]
    rw [Bool.beq_comm (a := k)]
theorem metS_len (val : Nat → Str) (i : Nat) : (metS val (i + 1)).length = if (metS val i).any (· == val i) then (metS val i).length else (metS val i).length + 1 := by
  show (if (metS val i).any (· == val i) then metS val i else metS val i ++ [val i]).length = _
  split <;> simp
theorem metS_le (val : Nat → Str) : ∀ i, (metS val i).length ≤ i
  | 0 => Nat.le_refl _
  | i + 1 => by
    rw [metS_len]
    have := metS_le val i
    split <;> omega
theorem metS_nodup {val : Nat → Str} : ∀ n, (∀ i j, i < n → j < n → val i = val j → i = j) → (metS val n).length = n ∧ ∀ k, (metS val n).any (· == k) = true → ∃ i, i < n ∧ val i = k
  | 0, _ => ⟨rfl, fun k h => by simp [metS] at h⟩
  | n + 1, h => by
    obtain ⟨a1, a2⟩ := metS_nodup n fun i j hi hj e => h i j (by omega) (by omega) e
    have no : (metS val n).any (· == val n) = false := by
      cases c : (metS val n).any (· == val n) with
      | false => rfl
      | true =>
        obtain ⟨i, hi, e⟩ := a2 _ c
        have := h i n (by omega) (by omega) e
        omega
    refine ⟨by rw [metS_len, no, a1]; rfl, fun k hk => ?_⟩
    rw [metS_any] at hk
    rcases Bool.or_eq_true_iff.mp hk with q | q
    · obtain ⟨i, hi, e⟩ := a2 k q
      exact ⟨i, by omega, e⟩
    · exact ⟨n, by omega, by simpa using (beq_iff_eq.mp q).symm⟩
section
variable {prog : Program} {w : World} {A : Around} {R : Result → Shared → Prop} {I : Addr} {fp wr : List Addr} {G : Array GenState → Array GenState → Prop} {n : Nat} {P : Nat → Value → Prop} {St : Nat → Shared → Prop}
noncomputable abbrev SetS (prog : Program) (w : World) (h : Heap) (S : Addr) (val : Nat → Str) (i : Nat) : Prop := h.SetOf (PySem.strKind prog w) S (fun k => (metS val i).any (· == k)) (metS val i).length
theorem setS_stay {h h' : Heap} {S : Addr} {val : Nat → Str} {i : Nat} (x : SetS prog w h S val i) (k : ∀ o, h.get? S = some o → h'.get? S = some o) : SetS prog w h' S val i := by
  obtain ⟨o, es, ep, tb, ho, q⟩ := x
  exact ⟨o, es, ep, tb, k o ho, q⟩
theorem set_turns (W : WalksS prog w A.in1 I fp wr G n P St) (S : Addr) (hSf : S ∉ fp) (val : Nat → Str) (hval : ∀ i v, P i v → ∃ t, v = .str (val i) t) (hb : n + 1 < scanBound) : ∀ (k i : Nat) (s : Shared), n - i = k → i ≤ n → St i s → SetS prog w s.heap S val i →
    (∀ s', Moved (S :: wr) G s s' → SetS prog w s'.heap S val n → R (.ok (.ret .none)) s') → codeAny (model prog w) A (.builtin "set.update.loop" ⟨[.ref S, .ref I], []⟩) R s := by
  have nw : S ∉ wr := fun z => hSf (W.sub _ z)
  have more : ∀ b ∈ wr, b ∈ S :: wr := fun b z => List.mem_cons_of_mem _ z
  intro k
  induction k with
  | zero =>
    intro i s hk hi st hS hR
    obtain rfl : i = n := by omega
    refine codeAny_builtin F.entry_set_update_loop ?_
    rw [Around.under_plainId F.plain_set_update_loop _]
    show wpAny _ A.in1 (pyNext (.ref I) >>= _) _ _ s
    exact wpAny_bind (W.done s _ _ st fun s' hm => wpAny_pure (hR s' (hm.mono more) (setS_stay hS fun o z => hm.heap S _ nw z)))
  | succ k ih =>
    intro i s hk hi st hS hR
    have lt : i < n := by omega
    refine codeAny_builtin F.entry_set_update_loop ?_
    rw [Around.under_plainId F.plain_set_update_loop _]
    show wpAny _ A.in1 (pyNext (.ref I) >>= _) _ _ s
    refine wpAny_bind (W.item i s _ _ lt st fun v s' hP st' hm => ?_)
    obtain ⟨t, rfl⟩ := hval i v hP
    have hS1 : SetS prog w s'.heap S val i := setS_stay hS fun o z => hm.heap S _ nw z
    have room := metS_le val i
    show wpAny _ A.in1 (holding [Value.str (val i) t] (setAdd S (.str (val i) t)) >>= _) _ _ s'
    refine wpAny_bind (wpAny_holding ?_)
    unfold setAdd
    refine wpAny_holding (wpAny_bind ((PySem.strKind prog w).pyHash (k := val i) (strKind_is _ _ _ _) (wpAny_setAddHashed_of (knd := PySem.strKind prog w) (s := { s' with toks := s'.toks + 1 }) (strKind_is _ _ _ _) rfl hS1 (by omega) fun h' hsb hS2 => ?_)))
    have hS3 : SetS prog w h' S val (i + 1) := SetOf_congr hS2 (fun k' => by rw [metS_any]; rfl) (by rw [metS_len])
    refine wpAny_pure ⟨plainId_quiet F.plain_set_update_loop _, ih (i + 1) _ (by omega) lt (W.frame _ s' _ _ st' (Nat.le_succ _) fun b hb o e => ?_) hS3 fun s2 hm2 hS4 => hR s2 (Moved.trans W.gtrans ((hm.mono more).then_heap (Nat.le_succ _) fun b o hb e => ?_) hm2) hS4⟩
    · rw [hsb.2 b (fun z : b = S => hSf (by rw [← z]; exact hb))]; exact e
    · rw [hsb.2 b (fun z : b = S => hb (by rw [z]; exact List.mem_cons_self))]; exact e
end
section
variable {prog : Program} {w : World} {A : Around} {E : Value → Shared → Prop} {s : Shared}
noncomputable abbrev nSet (led : Bool) : Obj := { cls := .type "set", dict := none, data := .set #[] 0 (.fresh 0 0 led) }
theorem set_texts {l : Addr} {items : Array Value} {val : Nat → Str} {Q : Value → Shared → Prop} (hh : A.handled = none) (hl : s.heap.IsList l items) (hv : ∀ (i : Nat) (v : Value), items[i]? = some v → ∃ t, v = .str (val i) t) (hb : items.size + 1 < scanBound)
    (h : ∀ (g : Heap) (tk : Nat), SetS prog w g s.heap.objs.size val items.size → (∀ b o, b < s.heap.objs.size → s.heap.get? b = some o → g.get? b = some o) → Q (.ref s.heap.objs.size) { s with heap := g, toks := tk }) :
    wpAny (model prog w) A (call (.type "set") [.ref l]) Q E s := by
  obtain ⟨c, tl, hmro⟩ := F.called_set.mro
  have hmade := F.called_set.made
  have hsub := F.called_set.sub
  refine wpAny_call (codeAny_of_tree ?_)
  show wpAny _ _ (callAny (.type "set") _) _ _ _
  refine wpAny_pure ⟨Code.quiet_builtin _ (by decide +kernel), codeAny_builtin F.entry_type_call ?_⟩
  rw [Around.under_plain (weight_type_call_type "set" [.ref l] []) rfl]
  have h1 := F.called_set.notType
  have h2 := F.called_set.canCreate
  have hct := F.typeCall_set_1 (.ref l)
  repeat (any_goals (first | assumption | wp_step))
  refine codeAny_mono (code_set_new_1 (.ref l) (E := E) (Q₁ := fun obj s1 => ∃ led : Bool, obj = .ref s.heap.objs.size ∧ s1 = { s with heap := s.heap.push (nSet led) }) fun led => ⟨led, rfl, rfl⟩) fun r s1 hr => ?_
  cases r with
  | error e => exact hr
  | ok fl =>
    cases fl with
    | ret obj =>
      obtain ⟨led, rfl, rfl⟩ := hr
      have gS : (s.heap.push (nSet led)).get? s.heap.objs.size = some (nSet led) := Heap.get?_push_size _ rfl
      have hT : Shared.TypeIs { s with heap := s.heap.push (nSet led) } (.ref s.heap.objs.size) "set" := ⟨_, gS, rfl⟩
      have hli := F.called_set.init.lookup
      have hbi := F.called_set.init.bind (.ref s.heap.objs.size)
      repeat (any_goals (first | assumption | wp_step))
      refine codeAny_mono (codeAny_call_builtin (R := wants (fun r s2 => r = .none ∧ ∃ g tk, s2 = { s with heap := g, toks := tk } ∧ SetS prog w g s.heap.objs.size val items.size ∧ (∀ b o, b < s.heap.objs.size → s.heap.get? b = some o → g.get? b = some o)) E)
        F.called_set.init.plain F.entry_set_init (check_set_init_1 hT ?_)) fun r2 s2 hr2 => ?_
      · obtain ⟨⟨ocls, odict, odata, oslots⟩, hol, hcl, nl, hdl⟩ := hl
        simp only at hcl hdl
        subst hcl; subst hdl
        have hol' : (s.heap.push (nSet led)).get? l = some { cls := .type "list", dict := odict, data := .seq items nl, slots := oslots } := Heap.get?_push_of_some _ hol
        have hsls := F.sub_list_set
        have hslf := F.sub_list_frozenset
        have hne : (Value.type "list" == Value.type "dict") = false := by decide
        have hl1 : (s.heap.push (nSet led)).IsList l items := ⟨_, hol', rfl, nl, rfl⟩
        unfold Builtin.«set.__init__» noKeywords Builtin.Frozenset.updateFrom
        generalize hPI : pyIter = PI
        wp_walk
        subst hPI
        refine wpAny_pyIter_list hl1 (wpAny_bind (wpAny_runValue ?_))
        have hlS : l < s.heap.objs.size := Heap.lt_size hol
        have sz : (s.heap.push (nSet led)).objs.size = s.heap.objs.size + 1 := Heap.size_push _ _
        refine set_turns ((Walks.list (A := A.in1.in1.in1) (by simp [hh]) _ l (by rw [sz]; exact Nat.ne_of_lt (Nat.lt_succ_of_lt hlS)) items).toS) s.heap.objs.size (by rw [sz]; simp; exact Nat.ne_of_gt hlS) val hv hb (items.size - 0) 0 _ (by omega) (Nat.zero_le _) ⟨⟨_, Heap.get?_push_size _ rfl, rfl, rfl⟩, (hl1.push _)⟩ ?z0 ?zR
        case z0 =>
          exact SetOf_congr ((setObjOf_fresh (knd := PySem.strKind prog w) led).setOf (Heap.get?_push_of_some _ gS) (by unfold scanBound; omega)) (fun _ => rfl) rfl
        case zR =>
          intro s' hm hS'
          obtain ⟨g, g', d', tk', os'⟩ := s'
          have eg : g' = s.gens := hm.gens
          have ed : d' = s.drawn := hm.drawn
          have eo : os' = s.os := hm.os
          subst eg; subst ed; subst eo
          show wpAny _ _ _ _ _ _
          refine wpAny_pure ?_
          show wpAny _ _ (ret Value.none) _ _ _
          refine wpAny_pure ⟨rfl, g, tk', rfl, hS', fun b o hb e => hm.heap b o ?_ (Heap.get?_push_of_some _ (Heap.get?_push_of_some _ e))⟩
          rw [sz]; simp; exact ⟨Nat.ne_of_lt hb, Nat.ne_of_lt (Nat.lt_succ_of_lt hb)⟩
      · cases r2 with
        | error e => exact hr2
        | ok fl2 =>
          cases fl2 with
          | ret r =>
            obtain ⟨rfl, g, tk, rfl, hS', hk'⟩ := hr2
            repeat (any_goals (first | assumption | wp_step))
            exact h _ _ hS' hk'
          | _ => exact hr2.elim
    | _ => exact hr.elim
end
end L2
set_option Elab.async false
set_option linter.all false
set_option maxRecDepth 100000
set_option maxHeartbeats 4000000
namespace L2
open PySem PySem.Spec PyProof.Rows PySem.W
noncomputable def manyS (zs : List Str) : Nat := (metS (fun i => zs.getD i Str.empty) zs.length).length
theorem manyS_nodup {zs : List Str} (h : zs.Nodup) : manyS zs = zs.length := by
  refine (metS_nodup zs.length fun i j hi hj q => ?_).1
  simp only [List.getD_eq_getElem?_getD, List.getElem?_eq_getElem hi, List.getElem?_eq_getElem hj, Option.getD_some] at q
  exact (List.getElem_inj h).mp q
noncomputable def setO (P : Program) (w : World) (a : Addr) (zs : List Str) : HO := .ext fun h => SetS P w h a (fun i => zs.getD i Str.empty) zs.length
section
variable {X : Cx}
theorem strs_get {zs : List Str} {its : List Value} (r : StrsAre its zs) : ∀ (i : Nat) (v : Value), its.toArray[i]? = some v → ∃ t, v = .str (zs.getD i Str.empty) t := by
  induction r with
  | nil => intro i v h; simp at h
  | cons x t r ih =>
    intro i v h
    cases i with
    | zero => simp at h; exact ⟨t, h.symm⟩
    | succ i => simp at h; exact ih i v (by simpa using h)
theorem call_setS (hc : X.calm = true) : CallR X (.type "set") (fun xs H Q => ∃ (a : Addr) (zs : List Str), xs = [.ref a] ∧ H a = some (.lst (zs.map V.str)) ∧ zs.length < 1000 ∧ ∀ p, H p = none → Q (.ref p) (upd H p (setO X.prog X.w p zs))) := by
  intro pins s σ H xs us Q I r h
  obtain ⟨a, zs, rfl, hA, hz, q⟩ := h
  obtain ⟨u, rfl, rx⟩ := vals1 r
  cases rx
  obtain ⟨its, r', pl, hzl⟩ := I.list (.of hA)
  have hst := strs_of r'
  have hl : its.length = zs.length := by have := r'.length; rw [List.length_map] at this; exact this.symm
  have hsz : its.toArray.size = zs.length := by rw [List.size_toArray]; exact hl
  refine set_texts (I.ok.hd hc) pl.isList (strs_get hst) (by rw [hsz]; unfold scanBound; omega) fun g tk hS old => ?_
  rw [hsz] at hS
  have k : ∀ b o, s.heap.get? b = some o → g.get? b = some o := fun b o z => old b o (Heap.lt_size z) z
  refine ⟨.ref s.heap.objs.size, _, I.laid (t' := tk) (h' := g) (o := setO X.prog X.w s.heap.objs.size zs) k (Nat.le_refl _) ⟨hS, ?_, fun h1 h2 x st => setS_stay x st⟩, rfl, q _ (I.hok.fresh (Nat.le_refl _))⟩
  obtain ⟨o, _, _, _, ho, _⟩ := hS
  exact ⟨o, ho⟩
theorem call_lenSet : CallR X (.builtin "len") (fun xs H Q => ∃ (p : Addr) (zs : List Str), xs = [.ref p] ∧ H p = some (setO X.prog X.w p zs) ∧ zs.length < 1000 ∧ Q (.int (manyS zs)) H) := by
  intro pins s σ H xs us Q I r h
  obtain ⟨p, zs, rfl, hP, hz, q⟩ := h
  obtain ⟨u, rfl, rx⟩ := vals1 r
  cases rx
  obtain ⟨hS, _, _⟩ := I.hok p _ hP
  obtain ⟨o, es, ep, t, ho, hex, hd, hel, hmem, hb, hf, hn⟩ := hS
  have le := metS_le (fun i => zs.getD i Str.empty) zs.length
  have en : es.size = manyS zs := hn
  have lm : manyS zs ≤ zs.length := le
  refine call_len_set ho hex hd hf (by rw [en]; omega) ⟨.int (manyS zs), H, I.tok _, ⟨s.toks + 1, by rw [en]⟩, q⟩
section
variable {prog : Program} {w : World} {A : Around} {E : Value → Shared → Prop} {s : Shared}
end
end
end L2
set_option Elab.async false
set_option linter.all false
set_option maxRecDepth 100000
set_option maxHeartbeats 4000000
namespace L2
open PySem PySem.Spec PyProof.Rows
end L2
set_option Elab.async false
set_option linter.all false
set_option maxRecDepth 100000
set_option maxHeartbeats 4000000
namespace L2
open PySem PySem.Spec PyProof.Rows
section
variable {X : Cx}
noncomputable def Like (H : Hp) : Nat → V → V → Prop
  | 0, x, y => x = y ∧ (flatV x = true ∨ ∃ a, x = .ref a)
  | n + 1, x, y => (x = y ∧ (flatV x = true ∨ ∃ a, x = .ref a)) ∨ ∃ a b xs ys, x = .ref a ∧ y = .ref b ∧ ((H a = some (.lst xs) ∧ H b = some (.lst ys)) ∨ (H a = some (.tup xs) ∧ H b = some (.tup ys))) ∧ xs.length = ys.length ∧
      ∀ (i : Nat) (u v : V), xs[i]? = some u → ys[i]? = some v → Like H n u v
theorem hu4 {A : Around} {k : Nat} (hr : Room k A) : A.units + 4 < cLine := Nat.lt_of_le_of_lt (Nat.add_le_add_left (by decide : 4 ≤ 64) _) hr.units
theorem like0 {pins : List (Addr × Obj)} {σ : St} {H : Hp} {s : Shared} {A : Around} {x : V} {v u : Value} (rx : RelV x v) (ry : RelV x u) (h : flatV x = true ∨ ∃ a, x = .ref a) : SeqAt.EqAt A s v u true := by
  rcases h with f | ⟨a, rfl⟩
  · have := eqAt_V (A := A) (s := s) rx ry f f
    rw [eqV_refl f] at this
    exact this
  · cases rx; cases ry
    exact SeqAt.EqAt.same _
theorem like_items {xs ys : List V} {i1 i2 : List Value} (r1 : Vals xs i1) (r2 : Vals ys i2) (hl : xs.length = ys.length) (j : Nat) (g1 : j < i1.toArray.size) (g2 : j < i2.toArray.size) :
    ∃ x y, xs[j]? = some x ∧ ys[j]? = some y ∧ RelV x i1.toArray[j] ∧ RelV y i2.toArray[j] := by
  have l1 := r1.length
  have l2 := r2.length
  have g1' : j < i1.length := by simpa using g1
  have g2' : j < i2.length := by simpa using g2
  obtain ⟨u, eu, ru⟩ := r1.get (i := j) (List.getElem?_eq_getElem (by omega : j < xs.length))
  obtain ⟨v, ev, rv⟩ := r2.get (i := j) (List.getElem?_eq_getElem (by omega : j < ys.length))
  have eu' : i1.toArray[j] = u := by
    rw [List.getElem?_eq_getElem g1'] at eu
    simpa using Option.some.inj eu
  have ev' : i2.toArray[j] = v := by
    rw [List.getElem?_eq_getElem g2'] at ev
    simpa using Option.some.inj ev
  rw [eu', ev']
  exact ⟨_, _, List.getElem?_eq_getElem (by omega), List.getElem?_eq_getElem (by omega), ru, rv⟩
theorem like_at {pins : List (Addr × Obj)} {σ : St} {H : Hp} {s : Shared} (I : Inv X pins σ H s) : ∀ (n : Nat) {A : Around} {x y : V} {v u : Value}, RelV x v → RelV y u → Like H n x y → A.units + n < cLine → SeqAt.EqAt A s v u true := by
  intro n
  induction n with
  | zero =>
    intro A x y v u rx ry h _
    obtain ⟨rfl, h⟩ := h
    exact like0 (pins := pins) (σ := σ) (H := H) rx ry h
  | succ n ih =>
    intro A x y v u rx ry h hu
    rcases h with ⟨rfl, h⟩ | ⟨a, b, xs, ys, rfl, rfl, h, hl, each⟩
    · exact like0 (pins := pins) (σ := σ) (H := H) rx ry h
    cases rx; cases ry
    by_cases e : a = b
    · subst e; exact SeqAt.EqAt.same _
    have hu1 : A.in1.units + n < cLine := by
      have e : A.in1.units = A.units + 1 := rfl
      omega
    refine SeqAt.EqAt.of_refs e ?_
    have hu0 : A.units < cLine := by omega
    rcases h with ⟨ha, hb⟩ | ⟨ha, hb⟩
    · obtain ⟨i1, r1, p1, _⟩ := I.list (.of ha)
      obtain ⟨i2, r2, p2, _⟩ := I.list (.of hb)
      have l1 := r1.length
      have l2 := r2.length
      have key := SeqAt.RcAt.lists (A := A) (e := fun _ => true) p1.isList p2.isList (by rw [List.size_toArray, List.size_toArray, ← l1, ← l2, hl]) hu0 (fun j g1 g2 => by
        obtain ⟨x, y, ex, ey, rx, ry⟩ := like_items r1 r2 hl j g1 g2
        exact ih rx ry (each j x y ex ey) hu1)
      rw [show (List.range i1.toArray.size).all (fun _ => true) = true by simp] at key
      exact key
    · obtain ⟨i1, r1, t1, _⟩ := I.tuple (.of ha)
      obtain ⟨i2, r2, t2, _⟩ := I.tuple (.of hb)
      have l1 := r1.length
      have l2 := r2.length
      have key := SeqAt.RcAt.tuples (A := A) (s := s) (l := a) (b := b) (e := fun _ => true) (show s.heap.IsTuple a i1.toArray from t1) (show s.heap.IsTuple b i2.toArray from t2) hu0 (fun j g1 g2 => by
        obtain ⟨x, y, ex, ey, rx, ry⟩ := like_items r1 r2 hl j g1 g2
        exact ih rx ry (each j x y ex ey) hu1)
      rw [show ((List.range (min i1.toArray.size i2.toArray.size)).all (fun _ => true) && i1.toArray.size == i2.toArray.size) = true by
        rw [List.size_toArray, List.size_toArray, ← l1, ← l2, hl]; simp] at key
      exact key
noncomputable def rLike (b : Bool) : R2 := fun x y H Q => ∃ p q xs ys, x = .ref p ∧ y = .ref q ∧ H p = some (.lst xs) ∧ H q = some (.lst ys) ∧ xs.length = ys.length ∧ (∀ (i : Nat) (u v : V), xs[i]? = some u → ys[i]? = some v → Like H 3 u v) ∧ Q (.bl b) H
theorem op_neL (hu : X.A.units + 4 < cLine) : OpR X (compareOp .NotEq) (rLike false) := by
  intro pins s σ H x y v u Q I rx ry h
  obtain ⟨a, b, xs, ys, rfl, rfl, ha, hb, hl, each, q⟩ := h
  cases rx; cases ry
  obtain ⟨i1, r1, p1, _⟩ := I.list (.of ha)
  obtain ⟨i2, r2, p2, _⟩ := I.list (.of hb)
  have l1 := r1.length
  have l2 := r2.length
  have key := SeqAt.RcNeAt.lists (A := X.A) (e := fun _ => true) p1.isList p2.isList (by rw [List.size_toArray, List.size_toArray, ← l1, ← l2, hl]) (by omega) (fun j g1 g2 => by
    obtain ⟨x, y, ex, ey, rx, ry⟩ := like_items r1 r2 hl j g1 g2
    exact like_at I 3 rx ry (each j x y ex ey) (by have e : X.A.in1.units = X.A.units + 1 := rfl; omega))
  rw [show (!(List.range i1.toArray.size).all (fun _ => true)) = false by simp] at key
  exact key _ _ _ _ ⟨.bl false, H, I, rfl, q⟩
end
end L2
set_option Elab.async false
set_option linter.all false
set_option maxRecDepth 100000
set_option maxHeartbeats 4000000
namespace L2
open PySem PySem.Spec PyProof.Rows
section
variable {prog : Program} {w : World} {A : Around} {E : Value → Shared → Prop} {s : Shared}
end
section
variable {X : Cx} {e : Expr} {te : TE} {pos p1 p2 p3 : Pos} {j1 : Nat}
end
end L2
set_option Elab.async false
set_option linter.all false
set_option maxRecDepth 100000
set_option maxHeartbeats 4000000
namespace L2
open PySem PySem.Spec PyProof.Rows
section
variable {prog : Program} {w : World} {A : Around} {E : Value → Shared → Prop} {s : Shared}
end
section
variable {X : Cx} {pos : Pos}
end
theorem lc_vals {K : PySem.W.Frag} {α : Type} {a acc : Addr} {xs : List Str} {ix : List Nat} {tt : TT} {te : TE} {σ : St} {H1 : Hp} {Q : VK} {ds : List α} (its : List V) (mk : α → V) (b : α → Bool) (rest : List (Option V)) (Rl : V → α → Hp → Prop) (hn : ds.length ≤ 2000) (ha : H1 acc = none) (hS : H1 a = some (.lst its)) (hl : its.length = ds.length)
    (hσ : stC xs ix σ = none :: rest) (hr : ∀ (i : Nat) (x : V) (d : α) (H : Hp), its[i]? = some x → ds[i]? = some d → Keep [acc] H1 H → Rl x d H)
    (htt : ∀ (d : α) (x : V) (H : Hp) (R : Bool → Hp → Prop), d ∈ ds → Keep [acc] H1 H → Rl x d H → R (b d) H → tt (some x :: rest) H R)
    (hte : ∀ (d : α) (x : V) (H : Hp) (R : VK), d ∈ ds → b d = true → Keep [acc] H1 H → Rl x d H → R (mk d) H → te (some x :: rest) H R)
    (q : ∀ H', H' acc = some (.lst ((ds.filter b).map mk)) → Keep [] H1 H' → Q (.ref acc) H') : LCW (Itl K a) xs ix (gName 0) tt te σ H1 acc Q := by
  have aa : a ≠ acc := ne_of_none hS ha
  refine lc_list (K := K) (a := a) (its := its) (by rw [hl, sizeLine_eq]; omega)
    (fun i ys τ H2 => ∃ k : Option V, τ = k :: rest ∧ ys = ((ds.take i).filter b).map mk ∧ Keep [acc] H1 H2 ∧ H2 acc = some (.lst ys)) ?_ ?_ ?_ ?_
  · exact ⟨none, hσ, rfl, Keep.at (by simp), upd_same⟩
  · rintro i ys τ H2 ⟨k, rfl, rfl, kp, h2⟩
    refine ⟨h2, ?_, .of (kp _ _ (by simp [aa]) hS)⟩
    have h3 := List.length_filter_le b (ds.take i)
    rw [List.length_take] at h3
    rw [List.length_map]
    omega
  · rintro i ys τ H2 x hx ⟨k, rfl, rfl, kp, h2⟩
    have il : i < ds.length := by rw [← hl]; exact (List.getElem?_eq_some_iff.mp hx).1
    obtain ⟨d, ed⟩ : ∃ d, ds[i]? = some d := ⟨ds[i], List.getElem?_eq_getElem il⟩
    have eT : ds.take (i + 1) = ds.take i ++ [d] := by rw [List.take_add_one, ed]; rfl
    have md := List.mem_of_getElem? ed
    have rl := hr i x d H2 hx ed kp
    refine htt d x H2 _ md kp rl ?_
    cases hb : b d with
    | false =>
      rw [if_neg Bool.false_ne_true]
      refine ⟨_, rfl, ?_, kp, h2⟩
      rw [eT, List.filter_append, List.filter_cons, hb]
      simp
    | true =>
      rw [if_pos rfl]
      refine hte d x H2 _ md hb kp rl ⟨h2, _, rfl, ?_, kp.trans (Keep.at (by simp)), upd_same⟩
      rw [eT, List.filter_append, List.filter_cons, hb]
      simp
  · rintro ys τ H2 ⟨k, rfl, rfl, kp, h2⟩
    rw [hl, List.take_length] at h2
    exact q H2 h2 (kp.drop ha)
section
variable {X : Cx}
end
end L2
set_option Elab.async false
set_option linter.all false
set_option maxRecDepth 100000
set_option maxHeartbeats 4000000
namespace L2
open PySem PySem.Spec PyProof.Rows
section
variable {prog : Program} {w : World} {A : Around} {E : Value → Shared → Prop} {s : Shared}
open Builtin.Str in
end
section
variable {X : Cx} {pos : Pos}
end
section
variable {X : Cx}
end
section
open PySem.SeqAt
open PySem.AutoSeq1 (wpAny_loadPart')
open PySem.MeetsSeq PySem.MeetsSeq2 PySem.MeetsSeq3
end
section
variable {X : Cx}
end
end L2
set_option Elab.async false
set_option linter.all false
set_option maxRecDepth 100000
set_option maxHeartbeats 4000000
namespace L2
open PySem PySem.Spec PyProof.Rows
open PySem.AutoSeq1 (wpAny_loadPart')
section
variable {prog : Program} {w : World} {A : Around} {E : Value → Shared → Prop} {s : Shared}
theorem enK_next {e it l : Addr} {i : Nat} {c : Int} {its : Array Value} {x old : Value} {Q : Option Value → Shared → Prop}
    (he : IsEnum s.heap e it c old) (hit : s.heap.IsListIter it l i) (hl : s.heap.IsList l its) (hx : its[i]? = some x) (hne : e ≠ it)
    (hQ : ∀ h', IsEnumOut h' e it (c + 1) x s.heap.objs.size → h'.IsListIter it l (i + 1) → h'.get? s.heap.objs.size = some { cls := .type "tuple", data := .seq #[.int c s.toks, x] } →
      (∀ b o, b ≠ e → b ≠ it → s.heap.get? b = some o → h'.get? b = some o) → Q (some (.ref s.heap.objs.size)) { s with heap := h', toks := s.toks + 1 }) :
    wpAny (model prog w) A (pyNext (.ref e)) Q E s := by
  have hT : s.TypeIs (.ref e) "enumerate" := ⟨_, he, rfl⟩
  unfold pyNext
  refine wpAny_bind (wpAny_attempt (wpAny_callSpecial?_slot (name := Str.ofString "__next__") hT F.slot_enumerate_next (wpAny_call_entry F.slot_enumerate_next hT F.entry_enumerate_next ?_ (F.args_enumerate_next_1 _))))
  obtain ⟨h0, ge, dr, tk, so⟩ := s
  show wpAny _ _ (field (.ref e) 2 >>= _) _ _ _
  refine wpAny_bind (wpAny_field he rfl (x := .ref it) rfl (wpAny_bind (wpAny_nextOf_list_item hit hl hx fun h1 i1 s1 => ?_)))
  replace s1 : Heap.SameBut it h0 h1 := s1
  have e1 : IsEnum h1 e it c old := (s1.2 e hne).trans he
  show wpAny _ _ (field (.ref e) 3 >>= _) _ _ ⟨h1, ge, dr, tk, so⟩
  refine wpAny_bind (wpAny_field e1 rfl (x := rawInt c) rfl ?_)
  show wpAny _ _ (field (.ref e) 4 >>= _) _ _ ⟨h1, ge, dr, tk, so⟩
  refine wpAny_bind (wpAny_field e1 rfl (x := .none) rfl ?_)
  show wpAny _ _ (mkInt c >>= _) _ _ ⟨h1, ge, dr, tk, so⟩
  refine wpAny_bind (wpAny_mkInt ?_)
  show wpAny _ _ (setField (.ref e) 3 (rawInt (c + 1)) >>= _) _ _ ⟨h1, ge, dr, tk + 1, so⟩
  refine wpAny_bind (wpAny_setField_rec e1 (by simp) fun h2 e2 s2 => ?_)
  replace s2 : Heap.SameBut e h1 h2 := s2
  replace e2 : IsEnum h2 e it (c + 1) old := e2
  show wpAny _ _ (setField (.ref e) 4 .none >>= _) _ _ ⟨h2, ge, dr, tk + 1, so⟩
  refine wpAny_bind (wpAny_setField_rec e2 (by simp) fun h3 e3 s3 => ?_)
  replace s3 : Heap.SameBut e h2 h3 := s3
  replace e3 : IsEnum h3 e it (c + 1) old := e3
  show wpAny _ _ (newTuple [.int c tk, x] >>= _) _ _ ⟨h3, ge, dr, tk + 1, so⟩
  refine wpAny_bind (wpAny_newTuple ?_)
  have e4 : IsEnum (h3.push { cls := .type "tuple", data := .seq #[.int c tk, x] }) e it (c + 1) old := Heap.get?_push_of_some _ e3
  generalize hh4 : h3.push { cls := .type "tuple", data := .seq #[.int c tk, x] } = h4 at e4
  have zz : h3.objs.size = h0.objs.size := by rw [s3.1, s2.1, s1.1]
  have lt : e < h0.objs.size := Heap.lt_size he
  have t4 : h4.get? h0.objs.size = some { cls := .type "tuple", data := .seq #[.int c tk, x] } := by
    rw [← hh4, ← zz]; exact Heap.get?_push_size _ rfl
  have k4 : ∀ b o, b ≠ e → b ≠ it → h0.get? b = some o → h4.get? b = some o := fun b o n1 n2 hb => by
    rw [← hh4]
    exact Heap.get?_push_of_some _ (s3.extBut b o n1 (s2.extBut b o n1 (s1.extBut b o n2 hb)))
  have i4 : h4.IsListIter it l (i + 1) := by
    rw [← hh4]
    obtain ⟨o, ho, r⟩ := (i1.extBut s2.extBut (Ne.symm hne)).extBut s3.extBut (Ne.symm hne)
    exact ⟨o, Heap.get?_push_of_some _ ho, r⟩
  show wpAny _ _ (Builtin.SmallTypes.ownedTupleIsFree (.ref e) >>= _) _ _ ⟨h4, ge, dr, tk + 1, so⟩
  rw [zz]
  refine wpAny_bind ?_
  unfold Builtin.SmallTypes.ownedTupleIsFree
  refine wpAny_bind (wpAny_field e4 rfl (x := .none) rfl (wpAny_pure ?_))
  simp only [if_true]
  refine wpAny_bind (wpAny_rule (wpAny_bind (wpAny_field e4 rfl (x := old) rfl ?_)))
  refine wpAny_bind (wpAny_setField_rec e4 (by simp) fun h5 e5 s5 => ?_)
  replace s5 : Heap.SameBut e h4 h5 := s5
  replace e5 : IsEnum h5 e it (c + 1) x := e5
  show wpAny _ _ (Builtin.SmallTypes.ownedTupleHandOut (.ref e) (.ref h0.objs.size) >>= _) _ _ ⟨h5, ge, dr, tk + 1, so⟩
  refine wpAny_bind ?_
  unfold Builtin.SmallTypes.ownedTupleHandOut
  refine wpAny_bind (wpAny_setField_rec e5 (by simp) fun h6 e6 s6 => ?_)
  replace s6 : Heap.SameBut e h5 h6 := s6
  replace e6 : IsEnumOut h6 e it (c + 1) x h0.objs.size := e6
  refine wpAny_setField_rec e6 (by simp) fun h7 e7 s7 => ?_
  replace s7 : Heap.SameBut e h6 h7 := s7
  replace e7 : IsEnumOut h7 e it (c + 1) x h0.objs.size := e7
  refine wpAny_bind (wpAny_letGo (wpAny_pure ⟨_, rfl, wpAny_pure (hQ h7 e7 ?_ ?_ ?_)⟩))
  · exact ((i4.extBut s5.extBut (Ne.symm hne)).extBut s6.extBut (Ne.symm hne)).extBut s7.extBut (Ne.symm hne)
  · exact s7.extBut _ _ (Nat.ne_of_gt lt) (s6.extBut _ _ (Nat.ne_of_gt lt) (s5.extBut _ _ (Nat.ne_of_gt lt) t4))
  · exact fun b o n1 n2 hb => s7.extBut b o n1 (s6.extBut b o n1 (s5.extBut b o n1 (k4 b o n1 n2 hb)))
theorem enK_end {e it l : Addr} {i : Nat} {c : Int} {its : Array Value} {old : Value} {Q : Option Value → Shared → Prop} (hh : A.handled = none) (he : IsEnum s.heap e it c old) (hit : s.heap.IsListIter it l i) (hl : s.heap.IsList l its) (hx : its[i]? = none)
    (hQ : ∀ h', Heap.ExtBut it s.heap h' → Q none { s with heap := h' }) : wpAny (model prog w) A (pyNext (.ref e)) Q E s := by
  have hT : s.TypeIs (.ref e) "enumerate" := ⟨_, he, rfl⟩
  unfold pyNext
  refine wpAny_bind (wpAny_attempt (wpAny_callSpecial?_slot (name := Str.ofString "__next__") hT F.slot_enumerate_next (wpAny_call_entry F.slot_enumerate_next hT F.entry_enumerate_next ?_ (F.args_enumerate_next_1 _))))
  show wpAny _ _ (field (.ref e) 2 >>= _) _ _ _
  refine wpAny_bind (wpAny_field he rfl (x := .ref it) rfl (wpAny_bind (wpAny_nextOf_list_end hh hit hl hx fun h' x he' hx' => ?_)))
  obtain ⟨o, ho, hc⟩ := hx'
  exact wpAny_bind (wpAny_isInstance (T := "StopIteration") (b := true) ⟨o, ho, hc⟩ isSubtype_stop (wpAny_pure (hQ _ he')))
end
theorem Inv.turnedT {X : Cx} {pins : List (Addr × Obj)} {σ : St} {H : Hp} {s : Shared} {h' : Heap} {t' : Nat} {a b T : Addr} {xs : List V} (I : Inv X pins σ H s) (k : ∀ c o, c ≠ a → c ≠ b → s.heap.get? c = some o → h'.get? c = some o)
    (fa : FpOk X pins H a) (fb : FpOk X pins H b) (hT : s.heap.objs.size ≤ T) (new : ObjOk X.prog X.w (upd H T (.tup xs)) h' T (.tup xs)) : Inv X pins σ (upd H T (.tup xs)) { s with heap := h', toks := t' } := by
  have nT : H T = none := I.hok.fresh hT
  have na : ∀ c u, H c = some u → c ≠ a := fun c u e z => by rw [z, fa.1] at e; cases e
  have nb : ∀ c u, H c = some u → c ≠ b := fun c u e z => by rw [z, fb.1] at e; cases e
  have kk : ∀ c o, c ∉ [a, b] → s.heap.get? c = some o → h'.get? c = some o := fun c o hc e => k c o (fun z => hc (by simp [z])) (fun z => hc (by simp [z])) e
  refine I.step (g' := s.gens) (d' := s.drawn) (ch := [a, b]) (fun c hc => ?_) (fun c o _ _ hc e _ => kk c o hc e) (fun c o _ _ hc e _ => ⟨o.slots, kk c o hc e⟩) (fun c o _ e n => by rw [upd_ne (Nat.ne_of_lt (Nat.lt_of_lt_of_le (Heap.lt_size e) hT))]; exact n)
    (fun c o hc e => ⟨o, kk c o hc e⟩) (fun c ys e => by rw [upd_ne (ne_of_none e nT)]; exact e) (fun c o u e => by rw [upd_ne (ne_of_none e nT)]; exact e) (fun c ps e => ⟨#[], by rw [upd_ne (ne_of_none e nT), e]; simp⟩) (fun m hm => ?_) (fun c u e => ?_) I.bare
  · rcases List.mem_cons.mp hc with rfl | hc
    · exact ⟨fa.2.2.2.1, fa.2.1, fa.2.2.2.2.1, fa.2.2.2.2.2⟩
    · rw [List.mem_singleton.mp hc]
      exact ⟨fb.2.2.2.1, fb.2.1, fb.2.2.2.2.1, fb.2.2.2.2.2⟩
  · obtain ⟨o, es, ep, ho, r⟩ := hm
    exact ⟨o, es, ep, k _ o (Ne.symm fa.2.1) (Ne.symm fb.2.1) ho, r⟩
  · by_cases hc : c = T
    · subst hc; rw [upd_same] at e; cases e; exact new
    · rw [upd_ne hc] at e
      refine (I.hok c u e).stay (fun d v hd q => ?_) (fun d q => by rw [upd_ne (ne_of_none q nT)]; exact q) fun d ys q => by rw [upd_ne (ne_of_none q nT)]; exact q
      rcases hd with z | z
      · rw [z] at q ⊢; exact k c v (na c u e) (nb c u e) q
      · exact k d v (na d _ z) (nb d _ z) q
noncomputable def Ite (K : PySem.W.Frag) (a : Addr) (k : Int) : It :=
  ⟨fun i H => ∃ xs x, SqL K H a xs ∧ xs[i]? = some x, fun i H x H' => ∃ T v, x = .ref T ∧ H T = none ∧ H' = upd H T (.tup [.int (k + i), v]) ∧ ∀ xs, SqL K H a xs → xs[i]? = some v, fun i H => ∃ xs, SqL K H a xs ∧ xs.length ≤ i⟩
theorem turn_enum {P : Program} {w : World} {K : PySem.W.Frag} {elts : List Expr} {n : Nat} {tp : Pos} (a e it : Addr) (k : Int) (hne : e ≠ it) : Turn P w K (.Tuple elts n tp) (Ite K a k) [e, it] e (fun i h => (∃ old, IsEnum h e it (k + i) old) ∧ h.IsListIter it a i) where
  mem := by simp
  obj := fun i h st b hb => by
    obtain ⟨⟨old, he⟩, o, ho, c, d⟩ := st
    rcases List.mem_cons.mp hb with rfl | hb
    · exact ⟨_, he, fun v z => by cases z⟩
    · rw [List.mem_singleton.mp hb]
      exact ⟨o, ho, fun v z => by rw [d] at z; cases z⟩
  keep := fun i h h' st kk => ⟨let ⟨old, he⟩ := st.1; ⟨old, kk e (by simp) _ he⟩, st.2.at fun o z => kk it (by simp) o z⟩
  item := by
    intro X hP hw hK hc i pins s σ H E I hf st hg
    subst hP hw hK
    obtain ⟨xs, x, hq, hx⟩ := hg
    obtain ⟨⟨old, he⟩, hit⟩ := st
    obtain ⟨its, rv, p, hz⟩ := I.list hq
    obtain ⟨u, hu, ru⟩ := rv.get hx
    refine enK_next he hit p.isList (x := u) (by simpa using hu) hne fun h' eo it' tt kp => ?_
    refine ⟨_, rfl, wpAny_letOwnedTupleGo_enum eo fun h2 e2 s2 => ?_⟩
    have el : e < s.heap.objs.size := Heap.lt_size he
    have il : it < s.heap.objs.size := by obtain ⟨o, ho, _⟩ := hit; exact Heap.lt_size ho
    have tt2 : h2.get? s.heap.objs.size = some { cls := .type "tuple", data := .seq #[.int (k + i) s.toks, u] } := (s2.2 _ (Nat.ne_of_gt el)).trans tt
    have I1 : Inv X pins σ (upd H s.heap.objs.size (.tup [.int (k + i), x])) { s with heap := h2, toks := s.toks + 1 } := I.turnedT (fun c o n1 n2 z => (s2.2 c n1).trans (kp c o n1 n2 z)) (hf e (by simp)) (hf it (by simp)) (Nat.le_refl _)
      ⟨by show 2 ≤ sizeLine; decide, [.int (k + i) s.toks, u], .cons ⟨_, rfl⟩ (.cons ru .nil), _, tt2, rfl, _, rfl⟩
    refine ⟨.ref s.heap.objs.size, _, I1, rfl, ⟨s.heap.objs.size, x, rfl, I.hok.fresh (Nat.le_refl _), rfl, fun ys hy => by rw [I.list_inj hy hq]; exact hx⟩, ⟨⟨u, by have z := e2; rw [show k + (i : Int) + 1 = k + ((i + 1 : Nat) : Int) by omega] at z; exact z⟩, it'.at fun o z => (s2.2 it (Ne.symm hne)).trans z⟩, fun b hb => ?_⟩
    have bl : b ≠ s.heap.objs.size := by
      rcases List.mem_cons.mp hb with rfl | hb
      · exact Nat.ne_of_lt el
      · rw [List.mem_singleton.mp hb]; exact Nat.ne_of_lt il
    rw [upd_ne bl]
    exact (hf b hb).1
  done := by
    intro X hP hw hK hc i pins s σ H E I hf st hg
    subst hP hw hK
    obtain ⟨xs, hq, hx⟩ := hg
    obtain ⟨⟨old, he⟩, hit⟩ := st
    obtain ⟨its, rv, p, hz⟩ := I.list hq
    obtain ⟨f0, f1, f2, f3, f4, f5⟩ := hf it (by simp)
    have hl := rv.length
    exact enK_end (I.ok.hd hc) he hit p.isList (by simp; omega) fun h' eb => ⟨rfl, I.turned (t' := s.toks) (fun b o hb z => eb b o hb z) f0 f1 f3 f4 f5⟩
  self := fun _ _ _ _ _ st h => by
    obtain ⟨⟨old, he⟩, _⟩ := st
    exact wpAny_pyIter_enum he h
section
variable {X : Cx}
noncomputable def iEnum (K : PySem.W.Frag) (k : Int) (tl : TE) : TI := fun σ H R => tl σ H fun x H1 => ∃ a, x = .ref a ∧ (∃ xs, SqL K H1 a xs) ∧ R (Ite K a k) H1
end
end L2
set_option Elab.async false
set_option linter.all false
set_option maxRecDepth 100000
set_option maxHeartbeats 4000000
namespace L2
open PySem PySem.Spec PyProof.Rows
theorem turn_in (g1 : Comprehension) (elt target iter : Expr) (ifs : List Expr) (scope : Scope) (pos : Pos) (it acc : Value) (env : Env) :
    compTurn (.ListComp elt [g1, ⟨target, iter, ifs, 0⟩] scope pos) 1 it acc env = (do
      standAt iter.pos
      match ← pyNext it with
      | none => pure (.done .next)
      | some v => do
        letOwnedTupleGo target it v
        assign target env v
        let ok ← forIn ifs true fun c r => if r = true then do let ok ← isTrue c env (eval c env); pure (ForInStep.yield ok) else pure (ForInStep.yield r)
        if ok = true then do
          (do let z ← eval elt env; let _ ← call (.builtin "list.append") [acc, z])
          again (.compLoop (.ListComp elt [g1, ⟨target, iter, ifs, 0⟩] scope pos) 1 it acc env)
        else again (.compLoop (.ListComp elt [g1, ⟨target, iter, ifs, 0⟩] scope pos) 1 it acc env)) := rfl
theorem turn_out (elt target iter tg2 iter2 : Expr) (ifs ifs2 : List Expr) (scope : Scope) (pos : Pos) (it acc : Value) (env : Env) :
    compTurn (.ListComp elt [⟨target, iter, ifs, 0⟩, ⟨tg2, iter2, ifs2, 0⟩] scope pos) 0 it acc env = (do
      standAt iter.pos
      match ← pyNext it with
      | none => pure (.done .next)
      | some v => do
        letOwnedTupleGo target it v
        assign target env v
        let ok ← forIn ifs true fun c r => if r = true then do let ok ← isTrue c env (eval c env); pure (ForInStep.yield ok) else pure (ForInStep.yield r)
        if ok = true then do
          let x ← eval iter2 env
          standAt iter2.pos
          let x ← foldedSetIterable iter2 env x
          let _ ← runOwn (.compStart (.ListComp elt [⟨target, iter, ifs, 0⟩, ⟨tg2, iter2, ifs2, 0⟩] scope pos) 1 (← holding [x] (pyIter x)) acc env) env
          again (.compLoop (.ListComp elt [⟨target, iter, ifs, 0⟩, ⟨tg2, iter2, ifs2, 0⟩] scope pos) 0 it acc env)
        else again (.compLoop (.ListComp elt [⟨target, iter, ifs, 0⟩, ⟨tg2, iter2, ifs2, 0⟩] scope pos) 0 it acc env)) := rfl
section
variable {prog : Program} {w : World} {A : Around} {R : Result → Shared → Prop} {s : Shared} {elt target iter tg2 iter2 : Expr} {ifs ifs2 : List Expr} {scope : Scope} {pos : Pos} {it acc : Value} {env : Env}
theorem start_in {g1 : Comprehension} (h0 : codeAny (model prog w) A (.compLoop (.ListComp elt [g1, ⟨target, iter, ifs, 0⟩] scope pos) 1 it acc env) R s)
    (h : wpAny (model prog w) A (pyIter it) (fun it' s' => codeAny (model prog w) A (.compLoop (.ListComp elt [g1, ⟨target, iter, ifs, 0⟩] scope pos) 1 it' acc env) R s') (fun _ _ => False) s) :
    codeAny (model prog w) A (.compStart (.ListComp elt [g1, ⟨target, iter, ifs, 0⟩] scope pos) 1 it acc env) R s := by
  refine codeAny_of_tree ?_
  show wpAny _ _ ((compStart (.ListComp elt [g1, ⟨target, iter, ifs, 0⟩] scope pos) 1 it acc env).onRaise (fun x => do noteFrame x env; standAt theWindowsPlace)) _ _ s
  refine wpAny_notedAt ?_
  unfold compStart; show wpAny _ _ (ask >>= _) _ _ s
  refine wpAny_bind (wpAny_askSetting (wpAny_ite ?_)); split
  · first | exact wpAny_bind (wpAny_pure (wpAny_pure (And.intro rfl h0))) | exact wpAny_pure (And.intro rfl h0)
  · have hh : wpAny (model prog w) A (pyIter it) (fun it' s' => codeAny (model prog w) A (.compLoop (.ListComp elt [g1, ⟨target, iter, ifs, 0⟩] scope pos) 1 it' acc env) R s') (notedBy (model prog w) A env fun x s' => R (.error x) s') s := wpAny_mono h (fun _ _ q => q) fun _ _ q => q.elim
    refine wpAny_bind (wpAny_rule ?_)
    show wpAny _ _ (standAt iter.pos >>= _) _ _ s
    exact wpAny_bind (wpAny_standAt (wpAny_bind (wpAny_mono hh (fun it' s' h' => wpAny_pure ⟨rfl, h'⟩) fun _ _ x => x)))
theorem lc_in {g1 : Comprehension} (J : Nat → Shared → Prop)
    (turn : ∀ n s, J n s → wpAny (model prog w) A (pyNext it) (fun r s1 => match r with
      | none => R (.ok .next) s1
      | some v => wpAny (model prog w) A (letOwnedTupleGo target it v) (fun _ s1' => wpAny (model prog w) A (assign target env v) (fun _ s2 =>
          wpAny (model prog w) A (forIn ifs true fun c r => if r = true then do let ok ← isTrue c env (eval c env); pure (ForInStep.yield ok) else pure (ForInStep.yield r)) (fun ok s3 =>
            if ok = true then wpAny (model prog w) A (eval elt env) (fun x s4 =>
              wpAny (model prog w) A (call (.builtin "list.append") [acc, x]) (fun _ s5 => ∃ m, m < n ∧ J m s5) (fun _ _ => False) s4) (fun _ _ => False) s3
            else ∃ m, m < n ∧ J m s3) (fun _ _ => False) s2) (fun _ _ => False) s1') (fun _ _ => False) s1) (fun _ _ => False) s)
    (n : Nat) (h : J n s) : codeAny (model prog w) A (.compLoop (.ListComp elt [g1, ⟨target, iter, ifs, 0⟩] scope pos) 1 it acc env) R s := by
  refine codeAny_loop rfl J (fun n s hJ => ?_) n h
  have nof : ∀ (e : Value) (s' : Shared), False → notedBy (model prog w) A env (fun e s' => R (.error e) s') e s' := fun _ _ f => f.elim
  show wpAny (model prog w) A ((compTurn (.ListComp elt [g1, ⟨target, iter, ifs, 0⟩] scope pos) 1 it acc env).onRaise (fun x => do noteFrame x env; theTreesLotGoes x)) _ _ s
  refine wpAny_noted ?_
  rw [turn_in]
  refine wpAny_bind (wpAny_standAt (wpAny_bind (wpAny_mono (turn n s hJ) (fun r s1 h1 => ?_) nof)))
  cases r with
  | none => exact wpAny_pure h1
  | some v =>
    refine wpAny_bind (wpAny_mono h1 (fun _ s1' h1' => ?_) nof)
    refine wpAny_bind (wpAny_mono h1' (fun _ s2 h2 => ?_) nof)
    refine wpAny_bind (wpAny_mono h2 (fun ok s3 h3 => ?_) nof)
    cases ok with
    | false => exact wpAny_pure ⟨rfl, h3⟩
    | true =>
      refine wpAny_bind (wpAny_bind (wpAny_mono h3 (fun x s4 h4 => ?_) nof))
      exact wpAny_bind (wpAny_mono h4 (fun _ s5 h5 => wpAny_pure (wpAny_pure ⟨rfl, h5⟩)) nof)
theorem lc_out (hf : ∀ x, foldedSetIterable iter2 env x = pure x) (J : Nat → Shared → Prop)
    (turn : ∀ n s, J n s → wpAny (model prog w) A (pyNext it) (fun r s1 => match r with
      | none => R (.ok .next) s1
      | some v => wpAny (model prog w) A (letOwnedTupleGo target it v) (fun _ s1' => wpAny (model prog w) A (assign target env v) (fun _ s2 =>
          wpAny (model prog w) A (forIn ifs true fun c r => if r = true then do let ok ← isTrue c env (eval c env); pure (ForInStep.yield ok) else pure (ForInStep.yield r)) (fun ok s3 =>
            if ok = true then wpAny (model prog w) A (eval iter2 env) (fun x s4 => wpAny (model prog w) A (pyIter x) (fun it2 s5 =>
              codeAny (model prog w) A (.compStart (.ListComp elt [⟨target, iter, ifs, 0⟩, ⟨tg2, iter2, ifs2, 0⟩] scope pos) 1 it2 acc env) (fun r s6 => r = .ok .next ∧ ∃ m, m < n ∧ J m s6) s5) (fun _ _ => False) s4) (fun _ _ => False) s3
            else ∃ m, m < n ∧ J m s3) (fun _ _ => False) s2) (fun _ _ => False) s1') (fun _ _ => False) s1) (fun _ _ => False) s)
    (n : Nat) (h : J n s) : codeAny (model prog w) A (.compLoop (.ListComp elt [⟨target, iter, ifs, 0⟩, ⟨tg2, iter2, ifs2, 0⟩] scope pos) 0 it acc env) R s := by
  refine codeAny_loop rfl J (fun n s hJ => ?_) n h
  have nof : ∀ (e : Value) (s' : Shared), False → notedBy (model prog w) A env (fun e s' => R (.error e) s') e s' := fun _ _ f => f.elim
  show wpAny (model prog w) A ((compTurn (.ListComp elt [⟨target, iter, ifs, 0⟩, ⟨tg2, iter2, ifs2, 0⟩] scope pos) 0 it acc env).onRaise (fun x => do noteFrame x env; theTreesLotGoes x)) _ _ s
  refine wpAny_noted ?_
  rw [turn_out]
  refine wpAny_bind (wpAny_standAt (wpAny_bind (wpAny_mono (turn n s hJ) (fun r s1 h1 => ?_) nof)))
  cases r with
  | none => exact wpAny_pure h1
  | some v =>
    refine wpAny_bind (wpAny_mono h1 (fun _ s1' h1' => ?_) nof)
    refine wpAny_bind (wpAny_mono h1' (fun _ s2 h2 => ?_) nof)
    refine wpAny_bind (wpAny_mono h2 (fun ok s3 h3 => ?_) nof)
    cases ok with
    | false => exact wpAny_pure ⟨rfl, h3⟩
    | true =>
      simp only [if_true]
      refine wpAny_bind (wpAny_mono h3 (fun x s4 h4 => ?_) nof)
      refine wpAny_bind (wpAny_standAt ?_)
      rw [hf]
      refine wpAny_bind (wpAny_pure (wpAny_bind (wpAny_holding (wpAny_mono h4 (fun it2 s5 h5 => ?_) nof))))
      refine wpAny_bind (wpAny_runOwn (h := none) ?_)
      rw [Around.mark_none]
      refine codeAny_mono h5 fun r s6 hz54 => ?_
      obtain ⟨e, q⟩ := hz54
      subst e
      exact wpAny_pure ⟨rfl, q⟩
end
noncomputable def INW (J : It) (g : TG) (tt : TT) (te : TE) (acc : Addr) (ys0 : List V) (τ0 : St) (H0 : Hp) (N : List V → St → Hp → Prop) : Prop :=
  ∃ W : Nat → Nat → List V → St → Hp → Prop, (∃ m, W 0 m ys0 τ0 H0) ∧ ∀ i m ys τ H, W i m ys τ H → H acc = some (.lst ys) ∧ ys.length < sizeLine ∧
    ((J.stop i H ∧ N ys τ H) ∨ (J.go i H ∧ ∃ M : List V → St → Hp → Prop, (∀ ys' τ' H', M ys' τ' H' → ∃ m', m' < m ∧ W (i + 1) m' ys' τ' H') ∧
      ∀ x H', J.yld i H x H' → g x τ H' fun τ2 H2 => tt τ2 H2 fun b H3 => if b = true then te τ2 H3 fun y H4 => H4 acc = some (.lst ys) ∧ M (ys ++ [y]) τ2 (upd H4 acc (.lst (ys ++ [y]))) else M ys τ2 H3))
noncomputable def LCW2 (J : It) (xs : List Str) (ix : List Nat) (g : TG) (tt : TT) (wi2 : TI) (g2 : TG) (tt2 : TT) (te : TE) (σ : St) (H1 : Hp) (acc : Addr) (Q : VK) : Prop :=
  ∃ W : Nat → Nat → List V → St → Hp → Prop, (∃ m, W 0 m [] (stC xs ix σ) (upd H1 acc (.lst []))) ∧ ∀ i m ys τ H, W i m ys τ H →
    ((J.stop i H ∧ Q (.ref acc) H) ∨ (J.go i H ∧ ∃ N : List V → St → Hp → Prop, (∀ ys' τ' H', N ys' τ' H' → ∃ m', m' < m ∧ W (i + 1) m' ys' τ' H') ∧
      ∀ x H', J.yld i H x H' → g x τ H' fun τ2 H2 => tt τ2 H2 fun b H3 => if b = true then wi2 τ2 H3 fun J2 H4 => INW J2 g2 tt2 te acc ys τ2 H4 N else N ys τ2 H3))
noncomputable def tLC2 (xs : List Str) (ix : List Nat) (wi : TI) (g : TG) (tt : TT) (wi2 : TI) (g2 : TG) (tt2 : TT) (te : TE) : TE := fun σ H Q => wi σ H fun J H1 => ∀ acc, H1 acc = none → LCW2 J xs ix g tt wi2 g2 tt2 te σ H1 acc Q
theorem lc2_core {X : Cx} {xs : List Str} {ix : List Nat} {scope : Scope} {elt tg iter tg2 iter2 : Expr} {ifs ifs2 : List Expr} {pos : Pos} {wi wi2 : TI} {g g2 : TG} {tt tt2 : TT} {te : TE}
    (S : CompScope X xs ix scope) (hc : X.calm = true) (hi : PI X tg iter wi) (hi2 : ∀ C fp s H, PI (cxC X xs ix scope C fp s H) tg2 iter2 wi2) (hf2 : ∀ env x, foldedSetIterable iter2 env x = pure x)
    (hg : ∀ C fp s H, PG (cxC X xs ix scope C fp s H) tg g) (ht : ∀ C fp s H, PTs (cxC X xs ix scope C fp s H) ifs tt) (hg2 : ∀ C fp s H, PG (cxC X xs ix scope C fp s H) tg2 g2) (ht2 : ∀ C fp s H, PTs (cxC X xs ix scope C fp s H) ifs2 tt2) (he : ∀ C fp s H, PE (cxC X xs ix scope C fp s H) elt te)
    {pins : List (Addr × Obj)} {s : Shared} {σ : St} {H : Hp} {Q : VK} (I : Inv X pins σ H s) (h : tLC2 xs ix wi g tt wi2 g2 tt2 te σ H Q) {use : Option (Value → Sem Unit)} {R : Value → Shared → Prop}
    (fin : ∀ (acc C : Addr) (H' : Hp) (s' : Shared) (m : Str → Option Value), Q (.ref acc) H' → s'.heap.Ns C m → (∀ h', Heap.SameBut C s'.heap h' → ∀ tk, Inv X pins σ H' { s' with heap := h', toks := tk }) → (X.s₀.heap.objs.size ≤ C ∧ C ≠ X.env.locals ∧ (∀ x c, X.env.cells.lookup x = some c → c ≠ C) ∧ (∀ p ∈ X.pn ++ pins, p.1 ≠ C) ∧ H' C = none) → compPost (model X.prog X.w) X.A X.xe use R (.ref acc) C (.ok .next) s') :
    wpAny (model X.prog X.w) X.A (eval iter X.env) (fun x s₁ => wpAny (model X.prog X.w) X.A (pyIter x) (fun it s₂ => wpAny (model X.prog X.w) X.A (newList []) (fun acc s₃ =>
      wpAny (model X.prog X.w) X.A (newFunctionEnv scope X.env.globals (clF X.env scope.names []) [] X.env.qual none .none (some X.env)) (fun cenv s₄ =>
        codeAny (model X.prog X.w) X.A (.compStart (.ListComp elt [⟨tg, iter, ifs, 0⟩, ⟨tg2, iter2, ifs2, 0⟩] scope pos) 0 it acc { cenv with scope := relabel scope X.env }) (compPost (model X.prog X.w) X.A X.xe use R acc cenv.locals) s₄) X.xe s₃) X.xe s₂) X.xe s₁) X.xe s := by
  refine thn (hi pins s σ H _ I h) fun v s1 h1 => thn h1 fun itv s2 h2 => ?_
  obtain ⟨it, fp, tn, J, H2, rfl, I2, T, st2, f2, q⟩ := h2
  refine wpAny_newObj_type ?_
  have I3 : Inv X pins σ (upd H2 s2.heap.objs.size (.lst [])) { s2 with heap := s2.heap.push { cls := .type "list", data := .seq ([] : List Value).toArray }, toks := s2.toks } := I2.lnew (ys := []) (its := []) .nil (Nat.zero_le _)
  obtain ⟨W, ⟨m0, w0⟩, turn⟩ := q s2.heap.objs.size I2.fresh
  have objs2 := T.obj 0 _ st2
  have neacc : ∀ b ∈ fp, b ≠ s2.heap.objs.size := fun b hb z => by
    obtain ⟨o, ho, _⟩ := objs2 b hb
    exact Nat.lt_irrefl _ (Nat.lt_of_lt_of_eq (Heap.lt_size ho) z.symm)
  generalize hacc : s2.heap.objs.size = acc at *
  generalize hs3 : ({ s2 with heap := s2.heap.push { cls := .type "list", data := .seq ([] : List Value).toArray } } : Shared) = s3
  have I3 : Inv X pins σ (upd H2 acc (.lst [])) s3 := by rw [← hs3]; exact I3
  have k3 : ∀ b o, s2.heap.get? b = some o → s3.heap.get? b = some o := fun b o e => by rw [← hs3]; exact Heap.get?_push_of_some _ e
  have f3 : ∀ b ∈ fp, FpOk X pins (upd H2 acc (.lst [])) b := fun b hb => ⟨by rw [upd_ne (neacc b hb)]; exact (f2 b hb).1, (f2 b hb).2⟩
  have o3 : ∀ b ∈ fp, ∃ o, s3.heap.get? b = some o := fun b hb => let ⟨o, ho, _⟩ := objs2 b hb; ⟨o, k3 b o ho⟩
  have st3 : tn 0 s3.heap := T.keep _ _ _ st2 fun b _ o e => k3 b o e
  refine wpAny_newFunctionEnv S.nocell (by intro y hy; simp at hy) (fun h1 hns1 hsb1 => ?_) S.kind
  have keep1 : ∀ b o, s3.heap.get? b = some o → h1.get? b = some o := fun b o e => hsb1.extBut b o (Nat.ne_of_lt (Heap.lt_size e)) (Heap.get?_push_of_some _ e)
  generalize hs4 : ({ s3 with heap := h1, toks := s3.toks + ([] : List (Str × Value)).length } : Shared) = s4
  have I4 : Inv (cxC X xs ix scope s3.heap.objs.size fp s3 (upd H2 acc (.lst []))) [] (stC xs ix σ) (upd H2 acc (.lst [])) s4 := block_start S I3 f3 o3 hns1 keep1 hs4.symm
  have st4 : tn 0 s4.heap := T.keep _ _ _ st3 fun b _ o e => by rw [← hs4]; exact keep1 b o e
  generalize hX' : cxC X xs ix scope s3.heap.objs.size fp s3 (upd H2 acc (.lst [])) = X' at *
  have hg := hg s3.heap.objs.size fp s3 (upd H2 acc (.lst []))
  have ht := ht s3.heap.objs.size fp s3 (upd H2 acc (.lst []))
  have he := he s3.heap.objs.size fp s3 (upd H2 acc (.lst []))
  have hg2 := hg2 s3.heap.objs.size fp s3 (upd H2 acc (.lst []))
  have ht2 := ht2 s3.heap.objs.size fp s3 (upd H2 acc (.lst []))
  have hi2 := hi2 s3.heap.objs.size fp s3 (upd H2 acc (.lst []))
  rw [hX'] at hg ht he hg2 ht2 hi2
  have eP : X'.prog = X.prog := by rw [← hX']; rfl
  have ew : X'.w = X.w := by rw [← hX']; rfl
  have eK : X'.K = X.K := by rw [← hX']; rfl
  have eA : X'.A = X.A := by rw [← hX']; rfl
  have ec : X'.calm = true := by rw [← hX']; exact hc
  have ex : X'.xe = fun _ _ => False := by rw [← hX']; rfl
  have eenv : X'.env = compEnvC scope (clF X.env scope.names []) s3.heap.objs.size X.env := by rw [← hX']; rfl
  have eex : X'.ex = fp := by rw [← hX']; rfl
  have efs : X'.fs = frs X.stack := by rw [← hX']; rfl
  have epn : X'.pn = [] := by rw [← hX']; rfl
  have eH0 : X'.H₀ = upd H2 acc (.lst []) := by rw [← hX']; rfl
  have es0 : X'.s₀ = s3 := by rw [← hX']; rfl
  have eloc : X'.env.locals = s3.heap.objs.size := by rw [eenv]; rfl
  have stat : ∀ {H' : Hp}, (∀ b ∈ fp, H' b = none) → ∀ b ∈ fp, FpOk X' [] H' b := fun {H'} hn b hb => by
    refine ⟨hn b hb, ?_, ?_, .inl (by rw [eex]; exact hb), ?_, ?_⟩
    · rw [eloc]
      intro z
      obtain ⟨o, ho⟩ := o3 b hb
      exact Nat.lt_irrefl _ (Nat.lt_of_lt_of_eq (Heap.lt_size ho) z.symm)
    · exact I4.ok.exfs b (by rw [eex]; exact hb)
    · exact (I4.ok.exf b (by rw [eex]; exact hb)).2
    · rw [epn]; intro p hp; exact absurd hp (by simp)
  have loop : codeAny (model X.prog X.w) X.A (.compLoop (.ListComp elt [⟨tg, iter, ifs, 0⟩, ⟨tg2, iter2, ifs2, 0⟩] scope pos) 0 (.ref it) (.ref acc) X'.env) (compPost (model X.prog X.w) X.A X.xe use R (.ref acc) s3.heap.objs.size) s4 := by
    refine lc_out (fun x => hf2 _ x) (fun n s' => ∃ i ys τ H', Inv X' [] τ H' s' ∧ tn i s'.heap ∧ (∀ b ∈ fp, H' b = none) ∧ W i n ys τ H') ?_ m0 ⟨0, [], _, _, I4, st4, fun b hb => (f3 b hb).1, w0⟩
    rintro n s5 ⟨i, ys, τ, H5, I5, st5, fr5, w5⟩
    rcases turn i n ys τ H5 w5 with ⟨stop, qn⟩ | ⟨go, N, hN, step⟩
    · have d := T.done X' eP ew eK ec i [] s5 τ H5 (fun _ _ => False) I5 (stat fr5) st5 stop
      rw [eA] at d
      refine thn d fun r s6 hz55 => ?_
      obtain ⟨hr, I6⟩ := hz55
      subst hr
      obtain ⟨m, hn6, _⟩ := id I6.loc
      rw [eloc] at hn6
      refine fin acc s3.heap.objs.size H5 s6 m qn hn6 (fun h' hsb tk => ?_) ⟨I3.sz, Ne.symm (Nat.ne_of_lt I3.lt), fun x c e z => by
        obtain ⟨v, oc, hoc, _⟩ := I3.cell x c e
        exact Nat.lt_irrefl _ (Nat.lt_of_lt_of_eq (Heap.lt_size hoc) z.symm), fun p hp z => Nat.lt_irrefl _ (Nat.lt_of_lt_of_eq (Heap.lt_size (I3.pin p hp).1) z.symm), by have := I6.free; rw [eloc] at this; exact this⟩
      have same : ∀ b, b ≠ s3.heap.objs.size → h'.get? b = s6.heap.get? b := fun b hb => hsb.2 b hb
      have ub := I6.base
      rw [efs, eex, eH0, es0] at ub
      have ne3 : ∀ b o, s3.heap.get? b = some o → b ≠ s3.heap.objs.size := fun b o e => Nat.ne_of_lt (Heap.lt_size e)
      have u : Un (frs X.stack) fp (upd H2 acc (.lst [])) H5 s3.heap h' :=
        ⟨fun b o e n1 n2 n3 => (same b (ne3 b o e)).trans (ub.keep b o e n1 n2 n3), fun b o e n1 n2 n3 => by
            obtain ⟨sl, z⟩ := ub.slot b o e n1 n2 n3
            exact ⟨sl, (same b (ne3 b o e)).trans z⟩, ub.free, fun b o e n3 => by
            obtain ⟨o', z⟩ := ub.there b o e n3
            exact ⟨o', (same b (ne3 b o e)).trans z⟩, ub.tups, ub.frzs, ub.tbls⟩
      have fC : H5 s3.heap.objs.size = none := by have := I6.free; rw [eloc] at this; exact this
      have hok : HOk X.prog X.w H5 h' := fun b o e => by
        have z := I6.hok b o e
        rw [eP, ew] at z
        refine z.stay (fun c u hc q => (same c ?_).trans q) (fun _ q => q) fun _ _ q => q
        intro zc
        rcases hc with q1 | q1
        · rw [← q1, zc, fC] at e; cases e
        · rw [zc, fC] at q1; cases q1
      have hch : ∀ b ∈ fp, (b ∈ X.ex ∨ X.s₀.heap.objs.size ≤ b) ∧ b ≠ X.env.locals ∧ (∀ x c, X.env.cells.lookup x = some c → c ≠ b) ∧ ∀ p ∈ X.pn ++ pins, p.1 ≠ b := fun b hb => by
        obtain ⟨_, f1, _, g3, g4, g5⟩ := f3 b hb
        exact ⟨g3, f1, g4, g5⟩
      have ho : s6.os = s3.os := by have := I6.os; rw [es0] at this; exact this
      exact I3.call' (s' := { s6 with heap := h', toks := tk }) (ch := fp) ho u hok I6.bare hch
    · have d := T.item X' eP ew eK ec i [] s5 τ H5 (fun _ _ => False) I5 (stat fr5) st5 go
      rw [eA] at d
      refine thn d fun r s6 hz56 => ?_
      obtain ⟨u, hr, h6⟩ := hz56
      subst hr
      refine thn h6 fun _ s7 hz57 => ?_
      obtain ⟨x, H7, I7, r7, y7, st7, fr7⟩ := hz57
      have I7' := I7.pinned (stat fr7) (T.obj _ _ st7)
      have dg := hg _ s7 τ H7 x u _ I7' r7 (step x H7 y7)
      rw [eP, ew, eA, ex] at dg
      refine thn dg fun _ s8 hz58 => ?_
      obtain ⟨τ8, H8, I8, q8⟩ := hz58
      have dt := ht _ s8 τ8 H8 _ I8 q8
      rw [eP, ew, eA, ex] at dt
      refine thn dt fun ok s9 hz59 => ?_
      obtain ⟨H9, I9, q9⟩ := hz59
      have again : ∀ {τ' : St} {H' : Hp} {s' : Shared}, Inv X' ([] ++ pinsAt fp s7.heap) τ' H' s' → Inv X' [] τ' H' s' ∧ tn (i + 1) s'.heap ∧ ∀ b ∈ fp, H' b = none := fun {τ' H' s'} Ie => by
        refine ⟨Ie.unpinned, T.keep _ _ _ st7 fun b hb o e => (Ie.pin (b, o) (List.mem_append_right _ (List.mem_append_right _ (mem_pinsAt hb e)))).1, fun b hb => ?_⟩
        obtain ⟨o, e, _⟩ := T.obj _ _ st7 b hb
        exact (Ie.pin (b, o) (List.mem_append_right _ (List.mem_append_right _ (mem_pinsAt hb e)))).2.1
      cases ok with
      | false =>
        rw [if_neg Bool.false_ne_true] at q9 ⊢
        obtain ⟨m', hm, w9⟩ := hN _ _ _ q9
        obtain ⟨z1, z2, z3⟩ := again I9
        exact ⟨m', hm, i + 1, ys, τ8, H9, z1, z2, z3, w9⟩
      | true =>
        rw [if_pos rfl] at q9 ⊢
        have de := hi2 _ s9 τ8 H9 _ I9 q9
        rw [eP, ew, eA, ex] at de
        refine thn de fun xv s10 h10 => thn h10 fun itv s11 h11 => ?_
        obtain ⟨it2, fp2, tn2, J2, H11, rfl, I11, T2, st11, f11, W2, ⟨m2, w2⟩, turn2⟩ := h11
        rw [eP, ew, eK] at T2
        have stat2 : ∀ {H' : Hp}, (∀ b ∈ fp2, H' b = none) → ∀ b ∈ fp2, FpOk X' ([] ++ pinsAt fp s7.heap) H' b := fun hn b hb => ⟨hn b hb, (f11 b hb).2⟩
        have loop2 : codeAny (model X.prog X.w) X.A (.compLoop (.ListComp elt [⟨tg, iter, ifs, 0⟩, ⟨tg2, iter2, ifs2, 0⟩] scope pos) 1 (.ref it2) (.ref acc) X'.env) (fun r s12 => r = .ok .next ∧ ∃ m, m < n ∧ ∃ i ys τ H', Inv X' [] τ H' s12 ∧ tn i s12.heap ∧ (∀ b ∈ fp, H' b = none) ∧ W i m ys τ H') s11 := by
          refine lc_in (fun n2 s' => ∃ i2 ys2 τ2 H', Inv X' ([] ++ pinsAt fp s7.heap) τ2 H' s' ∧ tn2 i2 s'.heap ∧ (∀ b ∈ fp2, H' b = none) ∧ W2 i2 n2 ys2 τ2 H') ?_ m2 ⟨0, ys, τ8, H11, I11, st11, fun b hb => (f11 b hb).1, w2⟩
          rintro n2 s12 ⟨i2, ys2, τ12, H12, I12, st12, fr12, w12⟩
          obtain ⟨ha12, hz12, way2⟩ := turn2 i2 n2 ys2 τ12 H12 w12
          rcases way2 with ⟨stop2, qn2⟩ | ⟨go2, N2, hN2, step2⟩
          · have d2 := T2.done X' eP ew eK ec i2 _ s12 τ12 H12 (fun _ _ => False) I12 (stat2 fr12) st12 stop2
            rw [eA] at d2
            refine thn d2 fun r s13 hz60 => ?_
            obtain ⟨hr, I13⟩ := hz60
            subst hr
            obtain ⟨m', hm, w13⟩ := hN _ _ _ qn2
            obtain ⟨z1, z2, z3⟩ := again I13
            exact ⟨rfl, m', hm, i + 1, ys2, τ12, H12, z1, z2, z3, w13⟩
          · have d2 := T2.item X' eP ew eK ec i2 _ s12 τ12 H12 (fun _ _ => False) I12 (stat2 fr12) st12 go2
            rw [eA] at d2
            refine thn d2 fun r s13 hz61 => ?_
            obtain ⟨u2, hr, h13⟩ := hz61
            subst hr
            refine thn h13 fun _ s14 hz62 => ?_
            obtain ⟨x2, H14, I14, r14, y14, st14, fr14⟩ := hz62
            have I14' := I14.pinned (stat2 fr14) (T2.obj _ _ st14)
            have dg2 := hg2 _ s14 τ12 H14 x2 u2 _ I14' r14 (step2 x2 H14 y14)
            rw [eP, ew, eA, ex] at dg2
            refine thn dg2 fun _ s15 hz63 => ?_
            obtain ⟨τ15, H15, I15, q15⟩ := hz63
            have dt2 := ht2 _ s15 τ15 H15 _ I15 q15
            rw [eP, ew, eA, ex] at dt2
            refine thn dt2 fun ok2 s16 hz64 => ?_
            obtain ⟨H16, I16, q16⟩ := hz64
            have again2 : ∀ {τ' : St} {H' : Hp} {s' : Shared}, Inv X' (([] ++ pinsAt fp s7.heap) ++ pinsAt fp2 s14.heap) τ' H' s' → Inv X' ([] ++ pinsAt fp s7.heap) τ' H' s' ∧ tn2 (i2 + 1) s'.heap ∧ ∀ b ∈ fp2, H' b = none := fun {τ' H' s'} Ie => by
              refine ⟨Ie.unpinned, T2.keep _ _ _ st14 fun b hb o e => (Ie.pin (b, o) (List.mem_append_right _ (List.mem_append_right _ (mem_pinsAt hb e)))).1, fun b hb => ?_⟩
              obtain ⟨o, e, _⟩ := T2.obj _ _ st14 b hb
              exact (Ie.pin (b, o) (List.mem_append_right _ (List.mem_append_right _ (mem_pinsAt hb e)))).2.1
            cases ok2 with
            | false =>
              rw [if_neg Bool.false_ne_true] at q16 ⊢
              obtain ⟨m', hm, w16⟩ := hN2 _ _ _ q16
              obtain ⟨z1, z2, z3⟩ := again2 I16
              exact ⟨m', hm, i2 + 1, ys2, τ15, H16, z1, z2, z3, w16⟩
            | true =>
              rw [if_pos rfl] at q16 ⊢
              have de2 := he _ s16 τ15 H16 _ I16 q16
              rw [eP, ew, eA, ex] at de2
              refine thn de2 fun yv s17 hz65 => ?_
              obtain ⟨y, H17, I17, r17, ha17, n17⟩ := hz65
              obtain ⟨m', hm, w17⟩ := hN2 _ _ _ n17
              have dm := mt_append (X := X') _ s17 τ15 H17 (.ref acc) [y] (.ref acc) [yv] (fun v H' => v = .non ∧ H' = upd H17 acc (.lst (ys2 ++ [y]))) I17 rfl (.cons r17 .nil) ⟨acc, ys2, y, rfl, rfl, ha17, hz12, rfl, rfl⟩
              rw [eP, ew, eA, ex] at dm
              refine thn dm fun _ s18 hz66 => ?_
              obtain ⟨_, H18, I18, _, _, e18⟩ := hz66
              subst e18
              obtain ⟨z1, z2, z3⟩ := again2 I18
              exact ⟨m', hm, i2 + 1, ys2 ++ [y], τ15, _, z1, z2, z3, w17⟩
        exact start_in loop2 (T2.self X.A 0 s11 _ (fun _ _ => False) st11 loop2)
  have e4 : ({ newEnv scope s3.heap.objs.size X.env.globals (clF X.env scope.names []) X.env.qual none .none (some X.env) builtinsNs with scope := relabel scope X.env } : Env) = X'.env := by rw [eenv]; rfl
  rw [eenv] at loop
  have self := T.self X.A 0 s4 (fun it' s' => codeAny (model X.prog X.w) X.A (.compLoop (.ListComp elt [⟨tg, iter, ifs, 0⟩, ⟨tg2, iter2, ifs2, 0⟩] scope pos) 0 it' (.ref acc) (compEnvC scope (clF X.env scope.names []) s3.heap.objs.size X.env)) (compPost (model X.prog X.w) X.A X.xe use R (.ref acc) s3.heap.objs.size) s')
    (notedBy (model X.prog X.w) X.A (compEnvC scope (clF X.env scope.names []) s3.heap.objs.size X.env) fun x s' => compPost (model X.prog X.w) X.A X.xe use R (.ref acc) s3.heap.objs.size (.error x) s') st4 loop
  exact codeAny_compStart_list loop self
theorem pe_lcc {X : Cx} {xs : List Str} {ix : List Nat} {scope : Scope} {elt tg iter tg2 iter2 : Expr} {ifs ifs2 : List Expr} {pos : Pos} {wi wi2 : TI} {g g2 : TG} {tt tt2 : TT} {te : TE} (S : CompScope X xs ix scope) (hc : X.calm = true) (hi : PI X tg iter wi) (hi2 : ∀ C fp s H, PI (cxC X xs ix scope C fp s H) tg2 iter2 wi2)
    (hg : ∀ C fp s H, PG (cxC X xs ix scope C fp s H) tg g) (ht : ∀ C fp s H, PTs (cxC X xs ix scope C fp s H) ifs tt) (hg2 : ∀ C fp s H, PG (cxC X xs ix scope C fp s H) tg2 g2) (ht2 : ∀ C fp s H, PTs (cxC X xs ix scope C fp s H) ifs2 tt2)
    (he : ∀ C fp s H, PE (cxC X xs ix scope C fp s H) elt te) (hs : ∀ x, foldedSetIterable iter X.env x = pure x := by intro _; rfl) (hf2 : ∀ env x, foldedSetIterable iter2 env x = pure x := by intro _ _; rfl) :
    PE X (.ListComp elt [⟨tg, iter, ifs, 0⟩, ⟨tg2, iter2, ifs2, 0⟩] scope pos) (tLC2 xs ix wi g tt wi2 g2 tt2 te) := by
  intro pins s σ H Q I h
  have hcl : ∀ n, (n, NameKind.free) ∈ scope.names → (X.env.cells.lookup n).isSome = true := fun n hn => by
    obtain ⟨c, e⟩ := I.ok.has n (S.fre n hn)
    rw [e]; rfl
  rw [eval_ListComp]
  refine wpAny_comprehension_free (use := none) rfl hs (closureFor_clF hcl) S.kind S.loc ?_
  refine lc2_core S hc hi hi2 hf2 hg ht hg2 ht2 he I h fun acc C H' s' m q hn k _ => ?_
  exact ⟨m, hn, fun h' hsb => ⟨.ref acc, H', k h' hsb s'.toks, rfl, q⟩⟩
theorem pe_lc22 {X : Cx} {N : List Str} {sc : Scope} {x y z u : Str} {ix : List Nat} {scope : Scope} {elt iter iter2 : Expr} {ifs ifs2 : List Expr} {px py pz pu tp tp2 pos : Pos} {tk tk2 : Nat} {wi wi2 : TI} {tt tt2 : TT} {te : TE}
    (hS : CompS N sc [x, y, z, u] ix scope) (hi : PI X (.Tuple [.Name x px, .Name y py] tk tp) iter wi) (hi2 : ∀ C fp s H, PI (cxC X [x, y, z, u] ix scope C fp s H) (.Tuple [.Name z pz, .Name u pu] tk2 tp2) iter2 wi2)
    (ht : ∀ C fp s H, PTs (cxC X [x, y, z, u] ix scope C fp s H) ifs tt) (ht2 : ∀ C fp s H, PTs (cxC X [x, y, z, u] ix scope C fp s H) ifs2 tt2) (he : ∀ C fp s H, PE (cxC X [x, y, z, u] ix scope C fp s H) elt te)
    (hN : X.N = N := by rfl) (hsc : X.env.scope = sc := by rfl) (hc : X.calm = true := by rfl) (hs : ∀ x, foldedSetIterable iter X.env x = pure x := by intro _; rfl) (hf2 : ∀ env x, foldedSetIterable iter2 env x = pure x := by intro _ _; rfl) :
    PE X (.ListComp elt [⟨.Tuple [.Name x px, .Name y py] tk tp, iter, ifs, 0⟩, ⟨.Tuple [.Name z pz, .Name u pu] tk2 tp2, iter2, ifs2, 0⟩] scope pos)
      (tLC2 [x, y, z, u] ix wi (gTup X.K 2 (gCons (gName 0) (gCons (gName 1) gNil))) tt wi2 (gTup X.K 2 (gCons (gName 2) (gCons (gName 3) gNil))) tt2 te) := by
  have S := hS.at (X := X) hN hsc
  have hl : ∀ n ∈ [x, y, z, u], ∀ C fp s H, (cxC X [x, y, z, u] ix scope C fp s H).env.scope.names.lookup n = some .local := fun n hn _ _ _ _ => lookup_relabel_local (S.own n hn)
  have l0 := hl x (by simp)
  have l1 := hl y (by simp)
  have l2 := hl z (by simp)
  have l3 := hl u (by simp)
  exact pe_lcc S hc hi hi2 (fun C fp s H => pg_tup (X := cxC X [x, y, z, u] ix scope C fp s H) hc (pgs_cons (pg_name S.nd rfl (Or.inl (l0 C fp s H)) (.inr (l0 C fp s H))) (pgs_cons (pg_name S.nd rfl (Or.inl (l1 C fp s H)) (.inr (l1 C fp s H))) pgs_nil))) ht
    (fun C fp s H => pg_tup (X := cxC X [x, y, z, u] ix scope C fp s H) hc (pgs_cons (pg_name S.nd rfl (Or.inl (l2 C fp s H)) (.inr (l2 C fp s H))) (pgs_cons (pg_name S.nd rfl (Or.inl (l3 C fp s H)) (.inr (l3 C fp s H))) pgs_nil))) ht2 he hs hf2
theorem inw_list {K : PySem.W.Frag} {a acc : Addr} {its ys0 : List V} {g : TG} {te : TE} {τ0 : St} {H0 : Hp} {N : List V → St → Hp → Prop} (Pv : Nat → List V → St → Hp → Prop) (h0 : Pv 0 ys0 τ0 H0) (hacc : ∀ i ys τ H, Pv i ys τ H → H acc = some (.lst ys) ∧ ys.length < sizeLine ∧ SqL K H a its)
    (hs : ∀ i ys τ H x, its[i]? = some x → Pv i ys τ H → g x τ H fun τ2 H2 => te τ2 H2 fun y H4 => H4 acc = some (.lst ys) ∧ Pv (i + 1) (ys ++ [y]) τ2 (upd H4 acc (.lst (ys ++ [y])))) (hd : ∀ ys τ H, Pv its.length ys τ H → N ys τ H) : INW (Itl K a) g tYes te acc ys0 τ0 H0 N := by
  refine ⟨fun i m ys τ H => m = its.length - i ∧ i ≤ its.length ∧ Pv i ys τ H, ⟨its.length, by simp, Nat.zero_le _, h0⟩, ?_⟩
  rintro i m ys τ H ⟨rfl, hi, p⟩
  obtain ⟨c1, c2, c3⟩ := hacc i ys τ H p
  refine ⟨c1, c2, ?_⟩
  by_cases hlt : i < its.length
  · refine .inr ⟨⟨its, its[i], c3, by simp [hlt]⟩, Pv (i + 1), fun ys' τ' H' p' => ⟨its.length - (i + 1), by omega, rfl, hlt, p'⟩, fun x H' y => ?_⟩
    obtain ⟨e, y⟩ := y
    subst e
    exact yes_in (R := fun τ2 _ => fun y H4 => H4 acc = some (.lst ys) ∧ Pv (i + 1) (ys ++ [y]) τ2 (upd H4 acc (.lst (ys ++ [y])))) (hs i ys τ _ x (y its c3) p)
  · have e : i = its.length := by omega
    subst e
    exact .inl ⟨⟨its, c3, Nat.le_refl _⟩, hd ys τ H p⟩
theorem lc2_enum {K : PySem.W.Frag} {a acc : Addr} {k : Int} {its : List V} {xs : List Str} {ix : List Nat} {g g2 : TG} {tt2 : TT} {wi2 : TI} {te : TE} {σ : St} {H1 : Hp} {Q : VK} (Pv : Nat → List V → St → Hp → Prop) (h0 : Pv 0 [] (stC xs ix σ) (upd H1 acc (.lst []))) (hl : ∀ i ys τ H, i ≤ its.length → Pv i ys τ H → SqL K H a its)
    (hs : ∀ i ys τ H x T, its[i]? = some x → Pv i ys τ H → H T = none → g (.ref T) τ (upd H T (.tup [.int (k + i), x])) fun τ2 H2 => wi2 τ2 H2 fun J2 H4 => INW J2 g2 tt2 te acc ys τ2 H4 (Pv (i + 1))) (hd : ∀ ys τ H, Pv its.length ys τ H → Q (.ref acc) H) : LCW2 (Ite K a k) xs ix g tYes wi2 g2 tt2 te σ H1 acc Q := by
  refine ⟨fun i m ys τ H => m = its.length - i ∧ i ≤ its.length ∧ Pv i ys τ H, ⟨its.length, by simp, Nat.zero_le _, h0⟩, ?_⟩
  rintro i m ys τ H ⟨rfl, hi, p⟩
  have q := hl i ys τ H hi p
  by_cases hlt : i < its.length
  · refine .inr ⟨⟨its, its[i], q, by simp [hlt]⟩, Pv (i + 1), fun ys' τ' H' p' => ⟨its.length - (i + 1), by omega, rfl, hlt, p'⟩, fun x H' y => ?_⟩
    obtain ⟨T, v, rfl, nT, rfl, y⟩ := y
    have e : (fun τ2 H2 => tYes τ2 H2 fun b H3 => if b = true then wi2 τ2 H3 fun J2 H4 => INW J2 g2 tt2 te acc ys τ2 H4 (Pv (i + 1)) else Pv (i + 1) ys τ2 H3) = fun τ2 H2 => wi2 τ2 H2 fun J2 H4 => INW J2 g2 tt2 te acc ys τ2 H4 (Pv (i + 1)) := by
      funext τ2 H2
      show (if true = true then wi2 τ2 H2 (fun J2 H4 => INW J2 g2 tt2 te acc ys τ2 H4 (Pv (i + 1))) else Pv (i + 1) ys τ2 H2) = _
      rw [if_pos rfl]
    rw [e]
    exact hs i ys τ H v T (y its q) p nT
  · have e : i = its.length := by omega
    subst e
    exact .inl ⟨⟨its, q, Nat.le_refl _⟩, hd ys τ H p⟩
section
variable {X : Cx}
theorem pi_enum0 {elts : List Expr} {n : Nat} {tp : Pos} {p pos : Pos} {l : Expr} {tl : TE} (hg : Gl X "enumerate") (hm : X.mg "enumerate" = none) (hl : PE X l tl) (he : starEach [l] X.env = [(false, eval l X.env)] := by rfl) :
    PI X (.Tuple elts n tp) (.Call (.Name "enumerate" p) [l] [] pos) (iEnum X.K 0 tl) := by
  intro pins s σ H R I h
  refine wpAny_Call_Name_kw (ld_blt I hg hm (u := .type "enumerate") rfl ?_)
  rw [he]
  refine PySem.callWith_type rfl (Calls.evalArgs_plain (Calls.spliced_cons (thn (hl pins s σ H _ I h) fun v s1 hz67 => ?_)))
  obtain ⟨x, H1, I1, r1, q1⟩ := hz67
  refine Calls.spliced_nil ?_
  obtain ⟨a, rfl, ⟨xs, hq⟩, q⟩ := q1
  cases r1
  obtain ⟨its, rv, pl, hz⟩ := I1.list hq
  refine call_enumerate_list pl.isList fun h' ie il _ kp' => ?_
  refine wpAny_pyIter_enum ie ?_
  refine ⟨s1.heap.objs.size + 1, [s1.heap.objs.size + 1, s1.heap.objs.size], _, _, H1, rfl, I1.kept (t' := s1.toks) kp', turn_enum a (s1.heap.objs.size + 1) s1.heap.objs.size 0 (Nat.succ_ne_self _), ⟨⟨.none, by simpa using ie⟩, il⟩, fun b hb => ?_, q⟩
  have hb' : s1.heap.objs.size ≤ b := by
    rcases List.mem_cons.mp hb with rfl | hb
    · exact Nat.le_succ _
    · rw [List.mem_singleton.mp hb]; exact Nat.le_refl _
  exact I1.fpOk hb' (I1.hok.fresh hb')
end
theorem ps_setLC2 {X : Cx} {N : List Str} {sc : Scope} {x z y : Str} {ix : List Nat} {scope : Scope} {elt iter : Expr} {ifs : List Expr} {px pz tp cpos pos pos' : Pos} {tk : Nat} {wi : TI} {tt : TT} {te : TE} {i : Nat}
    (hN' : X.N.Nodup) (hin : X.N[i]? = some y) (hx : Loc X.env.scope y)
    (hS : CompS N sc [x, z] ix scope) (hi : PI X (.Tuple [.Name x px, .Name z pz] tk tp) iter wi) (ht : ∀ C fp s H, PTs (cxC X [x, z] ix scope C fp s H) ifs tt) (he : ∀ C fp s H, PE (cxC X [x, z] ix scope C fp s H) elt te)
    (hN : X.N = N := by rfl) (hsc : X.env.scope = sc := by rfl) (hc : X.calm = true := by rfl)
    (hsw : swapsWith (.ListComp elt [⟨.Tuple [.Name x px, .Name z pz] tk tp, iter, ifs, 0⟩] scope cpos) (some (.Name y pos')) pos.line X.env = pure true := by rfl)
    (hf : X.fn y = true ∨ X.env.scope.names.lookup y = some .local := by first | exact .inl rfl | exact .inr rfl | assumption)
    (hs : ∀ x, foldedSetIterable iter X.env x = pure x := by intro _; rfl) :
    PS X (.Assign [.Name y pos'] (.ListComp elt [⟨.Tuple [.Name x px, .Name z pz] tk tp, iter, ifs, 0⟩] scope cpos) pos) (tAsg (tLC [x, z] ix wi (gTup X.K 2 (gCons (gName 0) (gCons (gName 1) gNil))) tt te) (gName i)) := by
  have S := hS.at (X := X) hN hsc
  have l0 : ∀ C fp s H, (cxC X [x, z] ix scope C fp s H).env.scope.names.lookup x = some .local := fun _ _ _ _ => lookup_relabel_local (S.own x (by simp))
  have l1 : ∀ C fp s H, (cxC X [x, z] ix scope C fp s H).env.scope.names.lookup z = some .local := fun _ _ _ _ => lookup_relabel_local (S.own z (by simp))
  exact ps_setLC hN' hin hx S hc hi (fun C fp s H => pg_tup (X := cxC X [x, z] ix scope C fp s H) hc (pgs_cons (pg_name S.nd rfl (Or.inl (l0 C fp s H)) (.inr (l0 C fp s H))) (pgs_cons (pg_name S.nd rfl (Or.inl (l1 C fp s H)) (.inr (l1 C fp s H))) pgs_nil))) ht he hsw hf hs
end L2
set_option Elab.async false
set_option linter.all false
set_option maxRecDepth 100000
set_option maxHeartbeats 4000000
namespace K21
open PySem L2
noncomputable def top (i : Nat) : Stmt := PySem.Challenge.pw_treeright_k21_houses_made.main.body.getD i (.Pass ⟨0, 0, 0, 0⟩)
noncomputable abbrev sName : Stmt := top 18
noncomputable abbrev sInit : Stmt := inClass (top 25) 0
noncomputable abbrev sArrow : Stmt := inClass (top 25) 1
noncomputable abbrev sRow : Stmt := inClass (top 25) 2
noncomputable abbrev sInside : Stmt := inClass (top 25) 3
noncomputable abbrev sHas : Stmt := inClass (top 25) 4
noncomputable def flds (a : V) (wl : Addr) (h : V) (k : Bool) : List (Str × V) := [("pointer", a), ("waiting", .ref wl), ("holder", h), ("asked", .bl k)]
theorem n1 : ¬ (("pointer" : Str) = "holder") := by decide +kernel
theorem n2 : ¬ (("waiting" : Str) = "holder") := by decide +kernel
theorem n3 : ¬ (("pointer" : Str) = "asked") := by decide +kernel
theorem n4 : ¬ (("waiting" : Str) = "asked") := by decide +kernel
theorem n5 : ¬ (("holder" : Str) = "asked") := by decide +kernel
theorem n6 : ¬ (("pointer" : Str) = "waiting") := by decide +kernel
theorem fl_p (a : V) (wl : Addr) (h : V) (k : Bool) : (flds a wl h k).lookup ("pointer" : Str) = some a := rfl
theorem fl_w (a : V) (wl : Addr) (h : V) (k : Bool) : (flds a wl h k).lookup ("waiting" : Str) = some (.ref wl) := rfl
theorem fl_h (a : V) (wl : Addr) (h : V) (k : Bool) : (flds a wl h k).lookup ("holder" : Str) = some h := rfl
theorem fl_k (a : V) (wl : Addr) (h : V) (k : Bool) : (flds a wl h k).lookup ("asked" : Str) = some (.bl k) := rfl
noncomputable def optV : Option Str → V
  | none => .non
  | some z => .str z
structure SeatT (K : PySem.W.Frag) (C : Addr) : Prop where
  cl : Cls K C
  nP : NoAttr K C "pointer"
  nW : NoAttr K C "waiting"
  nH : NoAttr K C "holder"
  nA : NoAttr K C "asked"
structure SS where
  ptr : Option Str
  row : List (Str × Str)
  hold : Option Str
  asked : Bool
noncomputable def rowV (r : Str × Str) : List V := [.str r.1, .str r.2]
structure SeatAt (C : Addr) (H : Hp) (p wl : Addr) (s : SS) : Prop where
  ob : ∃ dx, H p = some (.ins C dx (flds (optV s.ptr) wl (optV s.hold) s.asked))
  rw : Rows H wl (s.row.map rowV)
  len : s.row.length ≤ 1000
theorem SeatAt.keep {C : Addr} {H H' : Hp} {p wl : Addr} {s : SS} (S : SeatAt C H p wl s) (k : Keep [] H H') : SeatAt C H' p wl s := by
  obtain ⟨⟨dx, h⟩, r, l⟩ := S
  exact ⟨⟨dx, k _ _ (by simp) h⟩, r.keep k, l⟩
theorem paired_keep {S : List Addr} {H H' : Hp} (k : Keep S H H') (n : ∀ b ∈ S, ∀ xs, H b ≠ some (.tup xs)) {ps : List Addr} {rows : List (List V)} (h : Paired (fun q r => H q = some (.tup r)) ps rows) : Paired (fun q r => H' q = some (.tup r)) ps rows := by
  induction h with
  | nil => exact .nil
  | cons e _ ih => exact .cons (k _ _ (fun z => n _ z _ e) e) ih
section
variable {P : Program} {w : World} {K : PySem.W.Frag} {mg : Str → Option Value} {base : Heap} {C : Addr}
end
end K21
set_option Elab.async false
set_option linter.all false
set_option maxRecDepth 100000
set_option maxHeartbeats 4000000
namespace K21
open PySem L2
section
variable {P : Program} {w : World} {K : PySem.W.Frag} {mg : Str → Option Value} {base : Heap} {C : Addr}
noncomputable def spName (K : PySem.W.Frag) : Sp := fun vs H Q _ => ∃ (x : V) (T : String), vs = [x] ∧ PlainT K H x T ∧ (∀ z, x = .str z → z.length ≤ 1000) ∧ ∀ H', Keep [] H H' → Q (.bl (nameV x)) H'
theorem scName : FnScope ["thing"] ["thing"] (defScope sName) := ⟨rfl, rfl, rfl, by decide +kernel, rfl, by decide +kernel, by decide +kernel⟩
theorem okName (G : FunG K mg "is_name" sName ["thing"]) (bI : Blt mg "isinstance") (bS : Blt mg "str") (bL : Blt mg "len") (bA : Blt mg "all") (gL : Glo mg "LETTERS" (.str abc)) (g8 : Glo mg "LONGEST_NAME" (.int 8)) :
    Cal P w K mg base CX0 1 "is_name" ["thing"] (spName K) := by
  refine G.ok scName (fun vs H Q E h => by obtain ⟨x, T, rfl, _⟩ := h; rfl) (fun f cdv A outer s H vs Q E hr h => ?_)
  obtain ⟨x, T, rfl, pt, hz, q⟩ := h
  refine ⟨_, pss_cons (ps_if (pt_not (pt_val (pe_blt call_isinst bI bo_isinstance (pa_cons (pv 0) (pa_cons (pe_ty bS bo_str) pa_nil))))) (pss_one (ps_ret pe_bl)) pss_nil)
    (pss_one (ps_ret (pe_and (pe_chain op_le op_le pe_int (pe_blt call_len bL bo_len (pa_cons (pv 0) pa_nil)) (pe_glo g8))
      (pe_one (pe_blt (call_all rfl) bA bo_all (pa_cons (pe_lc1 (N := ["thing"]) (sc := defScope sName) (ix := []) (by decide +kernel) (pi_str (pv 0)) (fun _ _ _ _ => pts_nil)
        (fun C fp s H => pe_cmpR op_in_str (pv 0) (pe_glo gL) (by with_unfolding_all rfl))) pa_nil)))))), ?_⟩
  refine ⟨_, rfl, _, _, _, _, rfl, pt.ty, pt.kit.1, _, rfl, ?_⟩
  cases pt with
  | str z =>
    have hz := hz z rfl
    refine iteF ?_
    refine ⟨_, rfl, _, z.length, rfl, ⟨by rw [sizeLine_eq]; omega, rfl⟩, _, _, rfl, rfl, _, rfl, ?_⟩
    refine ite2 (fun h1 => ?_) (fun h1 => ?_)
    · refine ⟨_, _, rfl, rfl, _, rfl, ?_⟩
      refine ite2 (fun h2 => ?_) (fun h2 => ?_)
      · refine ⟨_, rfl, z, rfl, fun acc ha => ?_⟩
        refine lc_str0 (by rw [sizeLine_eq]; show z.length < _; omega) (fun i ys τ H2 => ∃ (k : Option V), τ = [k] ∧ ys = (z.cps.toList.take i).map (fun c => V.bl (letterB c)) ∧ i ≤ z.cps.size ∧ Keep [acc] H H2 ∧ H2 acc = some (.lst ys)) ?_ ?_ ?_ ?_
        · exact ⟨_, rfl, rfl, Nat.zero_le _, Keep.at (by simp), upd_same⟩
        · rintro i ys τ H2 ⟨k, rfl, rfl, hi, kp, h3⟩
          exact ⟨h3, by simp; omega⟩
        · rintro i ys τ H2 hi ⟨k, rfl, rfl, _, kp, h3⟩
          refine ⟨_, rfl, _, _, rfl, rfl, h3, _, rfl, ?_, hi, kp.trans (Keep.at (by simp)), upd_same⟩
          rw [List.take_add_one, List.map_append]
          congr 1
          have e : z.cps.toList[i]? = some (z.cps.getD i 0) := by
            rw [Array.getElem?_toList, Array.getD_eq_getD_getElem?, Array.getElem?_eq_getElem hi]; rfl
          rw [e]; rfl
        · rintro ys τ H2 ⟨k, rfl, rfl, _, kp, h3⟩
          refine ⟨acc, z.cps.toList.map letterB, rfl, .of ?_, ?_⟩
          · rw [h3, List.take_of_length_le (by simp), List.map_map]; rfl
          · rw [all_map_id]
            have e : nameV (.str z) = z.cps.toList.all letterB := by
              show (decide (1 ≤ z.length) && decide (z.length ≤ 8) && _) = _
              have e1 : 1 ≤ z.length := by have := of_decide_eq_true h1; omega
              have e2 : z.length ≤ 8 := by have := of_decide_eq_true h2; omega
              rw [decide_eq_true e1, decide_eq_true e2]; rfl
            rw [← e]
            exact q _ (kp.drop ha)
      · have e : nameV (.str z) = false := by
          show (decide (1 ≤ z.length) && decide (z.length ≤ 8) && _) = _
          have e2 : ¬ z.length ≤ 8 := fun z' => h2 (decide_eq_true (by omega))
          rw [decide_eq_false e2]; simp
        rw [← e]
        exact q _ (Keep.refl _)
    · refine ⟨_, rfl, iteF ?_⟩
      have e : nameV (.str z) = false := by
        show (decide (1 ≤ z.length) && decide (z.length ≤ 8) && _) = _
        have e2 : ¬ 1 ≤ z.length := fun z' => h1 (decide_eq_true (by omega))
        rw [decide_eq_false e2]; simp
      rw [← e]
      exact q _ (Keep.refl _)
  | _ => exact iteT (q H (Keep.refl _))
theorem scArrow : FnScope ["self"] ["self"] (defScope sArrow) := ⟨rfl, rfl, rfl, by decide +kernel, rfl, by decide +kernel, by decide +kernel⟩
noncomputable def spArrow (C : Addr) : Sp := fun vs H Q _ => ∃ (p wl : Addr) (s : SS), vs = [.ref p] ∧ SeatAt C H p wl s ∧ Q (optV s.ptr) H
theorem okArrow (T : SeatT K C) (G : MthG K C "arrow" "Seat.arrow" sArrow ["self"]) : MCal P w K mg base CX0 1 C "arrow" ["self"] (spArrow C) := by
  refine G.ok scArrow (fun vs H Q E h => by obtain ⟨p, wl, s, rfl, _⟩ := h; rfl) (fun f cdv A outer s0 H vs Q E hr h => ?_)
  obtain ⟨p, wl, s, rfl, S, q⟩ := h
  obtain ⟨dx, hob⟩ := S.ob
  exact ⟨_, (pss_one (ps_ret (pe_fld (pv 0) rfl))), _, rfl, p, C, dx, _, _, rfl, hob, T.cl, T.nP, fl_p _ _ _ _, q⟩
theorem scInside : FnScope ["self"] ["self"] (defScope sInside) := ⟨rfl, rfl, rfl, by decide +kernel, rfl, by decide +kernel, by decide +kernel⟩
noncomputable def spInside (C : Addr) : Sp := fun vs H Q _ => ∃ (p wl : Addr) (s : SS), vs = [.ref p] ∧ SeatAt C H p wl s ∧ Q (optV s.hold) H
theorem okInside (T : SeatT K C) (G : MthG K C "inside" "Seat.inside" sInside ["self"]) : MCal P w K mg base CX0 1 C "inside" ["self"] (spInside C) := by
  refine G.ok scInside (fun vs H Q E h => by obtain ⟨p, wl, s, rfl, _⟩ := h; rfl) (fun f cdv A outer s0 H vs Q E hr h => ?_)
  obtain ⟨p, wl, s, rfl, S, q⟩ := h
  obtain ⟨dx, hob⟩ := S.ob
  exact ⟨_, (pss_one (ps_ret (pe_fld (pv 0) rfl))), _, rfl, p, C, dx, _, _, rfl, hob, T.cl, T.nH, fl_h _ _ _ _, q⟩
theorem scHas : FnScope ["self"] ["self"] (defScope sHas) := ⟨rfl, rfl, rfl, by decide +kernel, rfl, by decide +kernel, by decide +kernel⟩
noncomputable def spHas (C : Addr) : Sp := fun vs H Q _ => ∃ (p wl : Addr) (s : SS), vs = [.ref p] ∧ SeatAt C H p wl s ∧ Q (.bl s.asked) H
theorem okHas (T : SeatT K C) (G : MthG K C "has_asked" "Seat.has_asked" sHas ["self"]) : MCal P w K mg base CX0 1 C "has_asked" ["self"] (spHas C) := by
  refine G.ok scHas (fun vs H Q E h => by obtain ⟨p, wl, s, rfl, _⟩ := h; rfl) (fun f cdv A outer s0 H vs Q E hr h => ?_)
  obtain ⟨p, wl, s, rfl, S, q⟩ := h
  obtain ⟨dx, hob⟩ := S.ob
  exact ⟨_, (pss_one (ps_ret (pe_fld (pv 0) rfl))), _, rfl, p, C, dx, _, _, rfl, hob, T.cl, T.nA, fl_k _ _ _ _, q⟩
theorem scRow : FnScope ["self"] ["self"] (defScope sRow) := ⟨rfl, rfl, rfl, by decide +kernel, rfl, by decide +kernel, by decide +kernel⟩
noncomputable def spRow (C : Addr) : Sp := fun vs H Q _ => ∃ (p wl : Addr) (s : SS), vs = [.ref p] ∧ SeatAt C H p wl s ∧ ∀ (r : Addr) (H' : Hp), H r = none → Rows H' r (s.row.map rowV) → Keep [] H H' → Q (.ref r) H'
theorem okRow (T : SeatT K C) (G : MthG K C "row" "Seat.row" sRow ["self"]) (bT : Blt mg "list") : MCal P w K mg base CX0 1 C "row" ["self"] (spRow C) := by
  refine G.ok scRow (fun vs H Q E h => by obtain ⟨p, wl, s, rfl, _⟩ := h; rfl) (fun f cdv A outer s0 H vs Q E hr h => ?_)
  obtain ⟨p, wl, s, rfl, S, q⟩ := h
  obtain ⟨⟨dx, hob⟩, ⟨ps, hwl, hpr⟩, hlen⟩ := id S
  refine ⟨_, (pss_one (ps_ret (pe_callTy call_list_of rfl bT.no bo_list (pa_cons (pe_fld (pv 0) rfl) pa_nil)))), _, rfl, p, C, dx, _, _, rfl, hob, T.cl, T.nW, fl_w _ _ _ _, wl, _, rfl, .inl (.of hwl), fun l hl => ?_⟩
  have k1 : Keep [] H (upd H l (.lst (ps.map V.ref))) := Keep.new hl
  exact q l _ hl ⟨ps, upd_same, paired_keep k1 (fun b hb => by cases hb) hpr⟩ k1
theorem scInit : FnScope ["self", "arrow"] ["self", "arrow"] (defScope sInit) := ⟨rfl, rfl, rfl, by decide +kernel, rfl, by decide +kernel, by decide +kernel⟩
theorem put_all (a : V) (wl : Addr) : putF "asked" (.bl false) (putF "holder" .non (putF "waiting" (.ref wl) (putF "pointer" a []))) = flds a wl .non false := by
  unfold flds
  simp only [putF, if_neg n1, if_neg n2, if_neg n3, if_neg n4, if_neg n5, if_neg n6]
noncomputable def spInit (C : Addr) : Sp := fun vs H Q _ => ∃ (p dx : Addr) (ar : Option Str), vs = [.ref p, optV ar] ∧ H p = some (.ins C dx []) ∧ (∀ z, ar = some z → nameS z = true ∧ z.length ≤ 1000) ∧
  ∀ (wl : Addr) (H' : Hp), H wl = none → SeatAt C H' p wl ⟨ar, [], none, false⟩ → Keep [p] H H' → Q .non H'
theorem okInit {fI : Addr} {fd : FuncData} (T : SeatT K C) (G : Fun K "__init__" "Seat.__init__" sInit fI fd) (CI : Cal P w K mg base CX0 1 "is_name" ["thing"] (spName K)) : FnOk P w K mg base CX0 2 fI fd ["self", "arrow"] (spInit C) := by
  refine G.ok scInit (fun vs H Q E h => by obtain ⟨p, dx, ar, rfl, _⟩ := h; rfl) (fun cdv A outer s0 H vs Q E hr h => ?_)
  obtain ⟨p, dx, ar, rfl, hp, hz, q⟩ := h
  have hr1 : Room 1 _ := hr.mono (by decide)
  refine ⟨_, (pss_cons (ps_if (PW.pt (pw_and (pt_cmpR op_notN (pv 1) pe_non (nomark _)) (pw_and1 (pt_not (pt_val (pe_cal CI hr1 (pa_cons (pv 1) pa_nil))))))) (pss_one ps_never) pss_nil)
      (pss_cons (ps_fld (pv 0) (pv 1) rfl)
      (pss_cons (ps_fld (pv 0) (pe_lst pa_nil) rfl)
      (pss_cons (ps_fld (pv 0) pe_non rfl)
      (pss_one (ps_fld (pv 0) pe_bl rfl)))))), ?_⟩
  have rest : ∀ H1, Keep [] H H1 → (tSeq (sFld K (tVar 0) (tVar 1) "pointer") (tSeq (sFld K (tVar 0) (tLst tNil) "waiting") (tSeq (sFld K (tVar 0) (tC .non) "holder") (sFld K (tVar 0) (tC (.bl false)) "asked")))) { nx := fun _ H' => Q .non H', rt := Q } (L2.start ["self", "arrow"] [.ref p, optV ar]) H1 := fun H1 k1 => by
    have hp1 := k1 _ _ (by simp) hp
    refine ⟨_, rfl, _, rfl, p, C, dx, _, rfl, hp1, T.cl, T.nP, by show 0 < 1000; decide, Nat.zero_le _, fun wl hw => ?_⟩
    obtain ⟨hw1, wp⟩ := upd_none hw
    refine ⟨_, rfl, p, C, dx, _, rfl, by rw [upd_ne (Ne.symm wp), upd_same], T.cl, T.nW, by show 1 < 1000; decide, ?_⟩
    refine ⟨_, rfl, p, C, dx, _, rfl, upd_same, T.cl, T.nH, by show 2 < 1000; decide, ?_⟩
    refine ⟨_, rfl, p, C, dx, _, rfl, upd_same, T.cl, T.nA, by show 3 < 1000; decide, ?_⟩
    dsimp only
    rw [put_all, upd_upd, upd_upd]
    refine q wl _ (k1.none (by simp) hw1) ⟨⟨dx, upd_same⟩, ⟨[], by rw [upd_ne wp, upd_same]; rfl, .nil⟩, Nat.zero_le _⟩ ?_
    exact ((((k1.mono (by simp)).trans (Keep.at (by simp))).trans (Keep.new hw))).trans (Keep.at (by simp))
  cases ar with
  | none => exact ⟨_, rfl, rfl, _, rfl, ifF rfl (ifF rfl (rest H (Keep.refl _)))⟩
  | some z =>
    obtain ⟨h1, h2⟩ := hz z rfl
    refine ⟨_, rfl, rfl, _, rfl, ifT rfl ?_⟩
    refine ⟨_, rfl, _, "str", rfl, .str z, (fun z' e => by cases e; exact h2), fun H1 k1 => ⟨_, rfl, ?_⟩⟩
    exact ifF (by show (!nameS z) = false; rw [h1]; rfl) (rest H1 k1)
end
end K21
set_option Elab.async false
set_option linter.all false
set_option maxRecDepth 100000
set_option maxHeartbeats 4000000
namespace K21
open PySem L2
noncomputable abbrev sAlike : Stmt := top 40
noncomputable def Alk (H : Hp) : Nat → V → V → Prop
  | 0, u, v => u = v ∧ flatV u = true
  | n + 1, u, v => (u = v ∧ flatV u = true) ∨ ∃ (a b : Addr) (us vs : List V), u = .ref a ∧ v = .ref b ∧ ((H a = some (.lst us) ∧ H b = some (.lst vs)) ∨ (H a = some (.tup us) ∧ H b = some (.tup vs))) ∧ Paired (Alk H n) us vs ∧ us.length ≤ 2000
theorem Alk.flat {H : Hp} {u : V} (n : Nat) (f : flatV u = true) : Alk H n u u := by
  cases n with
  | zero => exact ⟨rfl, f⟩
  | succ n => exact .inl ⟨rfl, f⟩
theorem Alk.keep {H H' : Hp} (k : Keep [] H H') (n : Nat) : ∀ {u v : V}, Alk H n u v → Alk H' n u v := by
  induction n with
  | zero => exact fun h => h
  | succ n ih =>
    intro u v h
    rcases h with h | ⟨a, b, us, vs, e1, e2, hh, hp, hl⟩
    · exact .inl h
    · exact .inr ⟨a, b, us, vs, e1, e2, hh.elim (fun z => .inl ⟨k _ _ (by simp) z.1, k _ _ (by simp) z.2⟩) (fun z => .inr ⟨k _ _ (by simp) z.1, k _ _ (by simp) z.2⟩), L2.Paired.mapP hp fun x y z => ih z, hl⟩
theorem flat_plain {K : PySem.W.Frag} {H : Hp} {u : V} (f : flatV u = true) : ∃ T, PlainT K H u T ∧ T ≠ "list" ∧ T ≠ "tuple" := by
  cases u with
  | non => exact ⟨_, .non, by decide, by decide⟩
  | bl b => exact ⟨_, .bl b, by decide, by decide⟩
  | int i => exact ⟨_, .int i, by decide, by decide⟩
  | str z => exact ⟨_, .str z, by decide, by decide⟩
  | _ => exact absurd (show false = true from f) Bool.false_ne_true
theorem kitLT {K : PySem.W.Frag} {H : Hp} {x : V} {T : String} (h : PlainT K H x T) : PySem.W.kitAny K (.type T) [.type "list", .type "tuple"] = some (T == "list" || T == "tuple") := by
  cases h <;> rfl
section
variable {P : Program} {w : World} {K : PySem.W.Frag} {mg : Str → Option Value} {base : Heap} {C : Addr}
theorem scAlike : FnScope ["_law_found", "_law_due"] ["_law_found", "_law_due"] (defScope sAlike) := ⟨rfl, rfl, rfl, by decide +kernel, rfl, by decide +kernel, by decide +kernel⟩
noncomputable def spAl : Nat → Sp
  | 0 => fun _ _ _ _ => False
  | n + 1 => fun vs H Q _ => ∃ (u v : V), vs = [u, v] ∧ Alk H n u v ∧ ∀ H', Keep [] H H' → Q (.bl true) H'
theorem len_ref {K : PySem.W.Frag} {H : Hp} {a b : Addr} {us vs : List V} (h : (H a = some (.lst us) ∧ H b = some (.lst vs)) ∨ (H a = some (.tup us) ∧ H b = some (.tup vs))) : LenV K (.ref a) H us.length ∧ LenV K (.ref b) H vs.length := by
  rcases h with ⟨h1, h2⟩ | ⟨h1, h2⟩
  · exact ⟨.inl ⟨_, .of h1, rfl⟩, .inl ⟨_, .of h2, rfl⟩⟩
  · exact ⟨.inr ⟨_, .of h1, rfl⟩, .inr ⟨_, .of h2, rfl⟩⟩
theorem ty_ref {K : PySem.W.Frag} {H : Hp} {a b : Addr} {us vs : List V} (h : (H a = some (.lst us) ∧ H b = some (.lst vs)) ∨ (H a = some (.tup us) ∧ H b = some (.tup vs))) : ∃ T, PlainT K H (.ref a) T ∧ PlainT K H (.ref b) T ∧ (T = "list" ∨ T = "tuple") := by
  rcases h with ⟨h1, h2⟩ | ⟨h1, h2⟩
  · exact ⟨_, .lst h1, .lst h2, .inl rfl⟩
  · exact ⟨_, .tup h1, .tup h2, .inr rfl⟩
theorem ref_keep {H H' : Hp} {a b : Addr} {us vs : List V} (k : Keep [] H H') (h : (H a = some (.lst us) ∧ H b = some (.lst vs)) ∨ (H a = some (.tup us) ∧ H b = some (.tup vs))) : (H' a = some (.lst us) ∧ H' b = some (.lst vs)) ∨ (H' a = some (.tup us) ∧ H' b = some (.tup vs)) :=
  h.elim (fun z => .inl ⟨k _ _ (by simp) z.1, k _ _ (by simp) z.2⟩) (fun z => .inr ⟨k _ _ (by simp) z.1, k _ _ (by simp) z.2⟩)
theorem okAlike (G : FunG K mg "_law_alike" sAlike ["_law_found", "_law_due"]) (b_isinstance : Blt mg "isinstance") (b_list : Blt mg "list") (b_tuple : Blt mg "tuple") (b_bool : Blt mg "bool") (b_len : Blt mg "len") (b_all : Blt mg "all") (b_range : Blt mg "range") :
    ∀ n, Cal P w K mg base CX0 n "_law_alike" ["_law_found", "_law_due"] (spAl n)
  | 0 => by
    obtain ⟨f, fd, F, hm, hb⟩ := G.ex
    exact ⟨f, fd, ⟨fun _ _ _ _ h => h.elim, fun _ _ _ _ _ _ _ _ _ _ _ _ _ h => h.elim⟩, hm, F.kp, hb⟩
  | n + 1 => by
    have CA := okAlike G b_isinstance b_list b_tuple b_bool b_len b_all b_range n
    refine G.ok scAlike (fun vs H Q E h => by obtain ⟨u, v, rfl, _⟩ := h; rfl) (fun f cdv A outer s0 H vs Q E hr h => ?_)
    obtain ⟨u, v, rfl, hA, q⟩ := h
    refine ⟨_, (pss_cons (ps_if (pt_val (pe_blt call_isinstT b_isinstance bo_isinstance (pa_cons (pv 1) (pa_cons (pe_tup (pa_cons (pe_ty b_list bo_list) (pa_cons (pe_ty b_tuple bo_tuple) pa_nil))) pa_nil)))) (pss_cons (ps_if (PW.pt (pw_or (pt_cmpR op_ne (pe_blt call_isinst b_isinstance bo_isinstance (pa_cons (pv 1) (pa_cons (pe_ty b_list bo_list) pa_nil))) (pe_blt call_isinst b_isinstance bo_isinstance (pa_cons (pv 0) (pa_cons (pe_ty b_list bo_list) pa_nil))) (nomark _)) (pw_or1 (pt_cmpR op_ne (pe_blt call_isinst b_isinstance bo_isinstance (pa_cons (pv 1) (pa_cons (pe_ty b_tuple bo_tuple) pa_nil))) (pe_blt call_isinst b_isinstance bo_isinstance (pa_cons (pv 0) (pa_cons (pe_ty b_tuple bo_tuple) pa_nil))) (nomark _))))) (pss_one (ps_ret pe_bl)) pss_nil)
      (pss_cons (ps_if (pt_cmpR op_ne (pe_blt call_len b_len bo_len (pa_cons (pv 0) pa_nil)) (pe_blt call_len b_len bo_len (pa_cons (pv 1) pa_nil)) (nomark _)) (pss_one (ps_ret pe_bl)) pss_nil)
      (pss_one (ps_ret (pe_blt (call_all rfl) b_all bo_all (pa_cons (pe_lc1 (N := ["_law_found", "_law_due"]) (sc := defScope sAlike) (ix := [0, 1]) (by decide +kernel) (pi_range1 rfl b_range.no (pa_cons (pe_blt call_len b_len bo_len (pa_cons (pv 1) pa_nil)) pa_nil)) (fun _ _ _ _ => pts_nil) (fun _ _ _ _ => (pe_cal CA hr (pa_cons (pe_ix (ix_lstH.or ix_tupH) (pv 1) (pv 0) (fun _ _ => rfl)) (pa_cons (pe_ix (ix_lstH.or ix_tupH) (pv 2) (pv 0) (fun _ _ => rfl)) pa_nil))))) pa_nil)))))) pss_nil)
      (pss_one (ps_ret (pe_and (pe_cmpR op_eq (pe_blt call_isinst b_isinstance bo_isinstance (pa_cons (pv 0) (pa_cons (pe_ty b_bool bo_bool) pa_nil))) (pe_blt call_isinst b_isinstance bo_isinstance (pa_cons (pv 1) (pa_cons (pe_ty b_bool bo_bool) pa_nil))) (nomark _)) (pe_one (pe_cmpR op_eq (pv 0) (pv 1) (nomark _))))))), ?_⟩
    have hA' : (u = v ∧ flatV u = true) ∨ ∃ (a b : Addr) (us vs : List V) (m : Nat), u = .ref a ∧ v = .ref b ∧ ((H a = some (.lst us) ∧ H b = some (.lst vs)) ∨ (H a = some (.tup us) ∧ H b = some (.tup vs))) ∧ n = m + 1 ∧ Paired (Alk H m) us vs ∧ us.length ≤ 2000 := by
      cases n with
      | zero => exact .inl hA
      | succ m =>
        rcases hA with h | ⟨a, b, us, vs, e1, e2, hh, hp, hl⟩
        · exact .inl h
        · exact .inr ⟨a, b, us, vs, m, e1, e2, hh, rfl, hp, hl⟩
    rcases hA' with ⟨rfl, fu⟩ | ⟨a, b, us, vs, m, rfl, rfl, hh, rfl, hp, hl⟩
    · obtain ⟨T, pt, n1, n2⟩ := flat_plain (K := K) (H := H) fu
      have sc : scal u u = true := by
        cases u <;> first | rfl | exact absurd (show false = true from fu) Bool.false_ne_true
      refine ⟨_, rfl, by show 2 ≤ sizeLine; decide, fun t ht => ?_⟩
      have k1 : Keep [] H (upd H t (.tup [.ty "list", .ty "tuple"])) := Keep.new ht
      refine ⟨_, T, t, ["list", "tuple"], _, rfl, pt.keep k1, upd_same, kitLT (pt.keep k1), _, rfl, ?_⟩
      refine ifF (by simp [n1, n2]) ?_
      have kt := (pt.keep k1).kit.2.2.1
      refine ⟨_, rfl, _, _, _, _, rfl, (pt.keep k1).ty, kt, _, rfl, _, _, _, _, rfl, (pt.keep k1).ty, kt, rfl, _, rfl, ?_⟩
      refine ifT (by simp) ⟨_, rfl, _, rfl, sc, ?_⟩
      rw [decide_eq_true rfl]
      exact q _ k1
    · have hlen := paired_len hp
      refine ⟨_, rfl, by show 2 ≤ sizeLine; decide, fun t ht => ?_⟩
      have k1 : Keep [] H (upd H t (.tup [.ty "list", .ty "tuple"])) := Keep.new ht
      generalize hH1 : upd H t (.tup [.ty "list", .ty "tuple"]) = H1 at k1 ⊢
      have hh1 := ref_keep k1 hh
      obtain ⟨T, pa, pb, hT⟩ := ty_ref (K := K) hh1
      refine ⟨_, T, t, ["list", "tuple"], _, rfl, pb, by rw [← hH1]; exact upd_same, kitLT pb, _, rfl, ?_⟩
      refine ifT (by rcases hT with h | h <;> rw [h] <;> rfl) ?_
      refine ⟨_, rfl, _, _, _, _, rfl, pb.ty, pb.kit.2.2.2.1, _, rfl, _, _, _, _, rfl, pa.ty, pa.kit.2.2.2.1, rfl, _, rfl, ?_⟩
      refine ifF (by simp) ?_
      refine ⟨_, rfl, _, _, _, _, rfl, pb.ty, pb.kit.2.2.2.2, _, rfl, _, _, _, _, rfl, pa.ty, pa.kit.2.2.2.2, rfl, _, rfl, ?_⟩
      refine ifF (by simp) ?_
      obtain ⟨l1, l2⟩ := len_ref (K := K) hh1
      refine ⟨_, rfl, _, _, rfl, l1, _, rfl, _, _, rfl, l2, rfl, _, rfl, ?_⟩
      refine ifF (by rw [hlen]; simp) ?_
      refine ⟨_, rfl, _, _, rfl, l2, _, rfl, by omega, by omega, fun acc hacc => ?_⟩
      refine lc_range0 (by rw [sizeLine_eq]; omega) (fun i ys τ H2 => ∃ (k : Option V), τ = [k, some (.ref a), some (.ref b)] ∧ ys = List.replicate i (V.bl true) ∧ Keep [acc] H1 H2 ∧ H2 acc = some (.lst ys)) ?_ ?_ ?_ ?_
      · exact ⟨_, rfl, rfl, Keep.at (by simp), upd_same⟩
      · rintro i ys τ H2 ⟨k, rfl, rfl, kp, h2⟩
        exact ⟨h2, by simp⟩
      · rintro i ys τ H2 hi ⟨k, rfl, rfl, kp, h2⟩
        have hi' : i < vs.length := by omega
        have hi2 : i < us.length := by omega
        have k2 : Keep [] H1 H2 := kp.drop hacc
        have hh2 := ref_keep k2 hh1
        obtain ⟨y, ey, ay⟩ := paired_get hp i us[i] (List.getElem?_eq_getElem hi2)
        have ix1 : ∀ {p : Addr} {zs : List V} {x : V} {Q : VK}, zs[i]? = some x → (H2 p = some (.lst zs) ∨ H2 p = some (.tup zs)) → Q x H2 → (rIxH (.ref p) (.int (0 + (i : Int))) H2 Q ∨ rIxTH (.ref p) (.int (0 + (i : Int))) H2 Q) := fun {p zs x Q} e1 e2 e3 => by
          have e4 : atI zs (0 + (i : Int)) = some x := by rw [Int.zero_add]; exact atI_nat e1
          exact e2.elim (fun z => .inl ⟨p, zs, _, x, rfl, rfl, z, e4, e3⟩) (fun z => .inr ⟨p, zs, _, x, rfl, rfl, z, e4, e3⟩)
        refine ⟨_, rfl, _, rfl, ix1 (List.getElem?_eq_getElem hi2) (hh2.imp (·.1) (·.1)) ⟨_, rfl, _, rfl, ix1 ey (hh2.imp (·.2) (·.2)) ?_⟩⟩
        refine ⟨us[i], y, rfl, Alk.keep (k1.trans k2) m ay, fun H3 k3 => ⟨k3 _ _ (by simp) h2, _, rfl, ?_, (kp.trans (k3.mono (by simp))).trans (Keep.at (by simp)), upd_same⟩⟩
        rw [List.replicate_succ']
      · rintro ys τ H2 ⟨k, rfl, rfl, kp, h2⟩
        refine ⟨acc, List.replicate _ true, rfl, .of (by rw [h2, List.map_replicate]), ?_⟩
        have e : (List.replicate ((vs.length : Nat) : Int).toNat true).all id = true := by simp
        rw [e]
        exact q _ (k1.trans (kp.drop hacc))
end
end K21
set_option Elab.async false
set_option linter.all false
set_option maxRecDepth 100000
set_option maxHeartbeats 4000000
namespace K21
open PySem L2
noncomputable abbrev sCell : Stmt := top 33
noncomputable abbrev sMixed : Stmt := top 34
noncomputable abbrev sDigits : Stmt := top 35
noncomputable abbrev sNext : Stmt := top 36
noncomputable abbrev sNames : Stmt := top 37
noncomputable def Src (H : Hp) (p : Addr) : Prop := ∃ a b c : Int, H p = some (.lst [.int a, .int b, .int c])
noncomputable def LowS (z : Str) : Prop := ∀ c ∈ z.cps.toList, letterB c = true
theorem abc_low : ∀ c ∈ abc.cps.toList, letterB c = true := by decide +kernel
theorem low_app {x y : Str} (h1 : LowS x) (h2 : LowS y) : LowS (x ++ y) := by
  intro c hc
  have e : (x ++ y).cps.toList = x.cps.toList ++ y.cps.toList := by
    show (x.cps ++ y.cps).toList = _
    simp
  rw [e] at hc
  exact (List.mem_append.mp hc).elim (h1 c) (h2 c)
theorem low_one {ch : Nat} (h : ch ∈ abc.cps.toList) : LowS ⟨#[ch]⟩ := fun c hc => by
  have e : c = ch := by simpa using hc
  rw [e]; exact abc_low ch h
theorem low_slice {x : Str} (h : LowS x) (lo hi : Option Int) : LowS (Txt.slice x lo hi) := by
  intro c hc
  unfold Txt.slice at hc
  split at hc
  · exact h c hc
  · simp only [List.mem_filterMap] at hc
    obtain ⟨i, _, e⟩ := hc
    exact h c (by
      rw [← Array.getElem?_toList] at e
      exact List.mem_of_getElem? e)
theorem low_fold : ∀ (zs : List Str) (acc : Array Nat), (∀ c ∈ acc.toList, letterB c = true) → (∀ z ∈ zs, LowS z) → ∀ c ∈ (zs.foldl (fun acc p => acc ++ (Str.ofString "").cps ++ p.cps) acc).toList, letterB c = true
  | [], acc, h, _ => h
  | z :: zs, acc, h, hz => by
    rw [List.foldl_cons]
    refine low_fold zs _ (fun c hc => ?_) fun y hy => hz y (List.mem_cons_of_mem _ hy)
    have hc' : c ∈ acc.toList ++ (Str.ofString "").cps.toList ++ z.cps.toList := by simpa using hc
    rcases List.mem_append.mp hc' with q | q
    · rcases List.mem_append.mp q with q | q
      · exact h c q
      · exact absurd q (by show ¬ c ∈ ([] : List Nat); simp)
    · exact hz z List.mem_cons_self c q
theorem low_join (zs : List Str) (h : ∀ z ∈ zs, LowS z) : LowS (Txt.join (Str.ofString "") zs) := by
  cases zs with
  | nil => intro c hc; exact absurd hc (by show ¬ c ∈ ([] : List Nat); simp)
  | cons z zs =>
    show ∀ c ∈ ((zs.foldl (fun acc p => acc ++ (Str.ofString "").cps ++ p.cps) z.cps)).toList, letterB c = true
    exact low_fold zs _ (h z List.mem_cons_self) fun y hy => h y (List.mem_cons_of_mem _ hy)
theorem name_of {z : Str} (h : LowS z) (h1 : 1 ≤ z.length) (h2 : z.length ≤ 8) : nameS z = true := by
  unfold nameS
  rw [decide_eq_true h1, decide_eq_true h2]
  simp only [Bool.true_and]
  exact List.all_eq_true.mpr h
section
variable {P : Program} {w : World} {K : PySem.W.Frag} {mg : Str → Option Value} {base : Heap} {C : Addr}
noncomputable def spMixed : Sp := fun vs H Q _ => ∃ a k, vs = [.int a, .int k] ∧ ∀ v : Int, 0 ≤ v → v < 2147483629 → Q (.int v) H
theorem scMixed : FnScope ["_law_cell", "_law_k", "_law_number"] ["_law_cell", "_law_k"] (defScope sMixed) := ⟨rfl, rfl, rfl, by decide +kernel, rfl, by decide +kernel, by decide +kernel⟩
theorem okMixed (G : FunG K mg "_law_mixed" sMixed ["_law_cell", "_law_k"]) : Cal P w K mg base CX0 1 "_law_mixed" ["_law_cell", "_law_k"] spMixed := by
  refine G.ok scMixed (fun vs H Q E h => by obtain ⟨a, k, rfl, _⟩ := h; rfl) (fun f cdv A outer s H vs Q E hr h => ?_)
  obtain ⟨a, k, rfl, q⟩ := h
  refine ⟨_, pss_cons (ps_set (i := 2) scMixed.nd rfl (Or.inl rfl) (pe_op op_mod (pe_op op_mul (pe_op op_add (pe_op op_add (pe_op op_mod (pv 0) pe_int) (pe_op op_mul pe_int (pv 1))) pe_int) pe_int) pe_int))
    (pss_cons (ps_set (i := 2) scMixed.nd rfl (Or.inl rfl) (pe_op op_mod (pe_op op_mul (pv 2) (pe_op op_add (pe_op op_fdiv (pv 2) pe_int) pe_int)) pe_int))
    (pss_cons (ps_set (i := 2) scMixed.nd rfl (Or.inl rfl) (pe_op op_mod (pe_op op_mul (pv 2) (pe_op op_add (pe_op op_add (pe_op op_fdiv (pv 2) pe_int) pe_int) (pv 1))) pe_int))
    (pss_one (ps_ret (pe_op op_mod (pe_op op_mul (pv 2) (pe_op op_add (pe_op op_fdiv (pv 2) pe_int) pe_int)) pe_int))))), ?_⟩
  simp [tSeq, tAsg, tRet, tOp, rI, rI0, tVar, tC, gName, L2.start, CMul, CDiv]
  refine ⟨by omega, by omega, by omega, q _ (by omega) (by omega)⟩
noncomputable def spDigits : Sp := fun vs H Q _ => ∃ a, vs = [.int a] ∧ ∀ (p : Addr) (b c d : Int), H p = none → Q (.ref p) (upd H p (.lst [.int b, .int c, .int d]))
theorem scDigits : FnScope ["_law_cell"] ["_law_cell"] (defScope sDigits) := ⟨rfl, rfl, rfl, by decide +kernel, rfl, by decide +kernel, by decide +kernel⟩
theorem okDigits (G : FunG K mg "_law_digits" sDigits ["_law_cell"]) : Cal P w K mg base CX0 1 "_law_digits" ["_law_cell"] spDigits := by
  refine G.ok scDigits (fun vs H Q E h => by obtain ⟨a, rfl, _⟩ := h; rfl) (fun f cdv A outer s H vs Q E hr h => ?_)
  obtain ⟨a, rfl, q⟩ := h
  refine ⟨_, pss_one (ps_ret (pe_lst (pa_cons (pe_op op_mul (pe_op op_fdiv (pv 0) pe_int) (pe_op op_sub pe_int (pe_op op_mod (pv 0) pe_int))) (pa_cons (pv 0) (pa_cons pe_int pa_nil))))), ?_⟩
  simp [tSeq, tAsg, tRet, tOp, rI, rI0, tVar, tC, gName, L2.start, CMul, CDiv, tLst, tCons, tNil]
  refine ⟨by omega, small1000 (by decide) |> Nat.le_of_lt, fun p hp => q p _ _ _ hp⟩
noncomputable def spNext : Sp := fun vs H Q _ => ∃ (p : Addr) (a b c m : Int), vs = [.ref p, .int m] ∧ H p = some (.lst [.int a, .int b, .int c]) ∧ 0 < m ∧ m < 4611686018427387904 ∧
  ∀ v a' c' : Int, 0 ≤ v → v < m → Q (.int v) (upd H p (.lst [.int a', .int b, .int c']))
theorem scNext : FnScope ["_law_source", "_law_many", "_law_found"] ["_law_source", "_law_many"] (defScope sNext) := ⟨rfl, rfl, rfl, by decide +kernel, rfl, by decide +kernel, by decide +kernel⟩
theorem okNext (G : FunG K mg "_law_next" sNext ["_law_source", "_law_many"]) (CM : Cal P w K mg base CX0 1 "_law_mixed" ["_law_cell", "_law_k"] spMixed) : Cal P w K mg base CX0 2 "_law_next" ["_law_source", "_law_many"] spNext := by
  refine G.ok scNext (fun vs H Q E h => by obtain ⟨p, a, b, c, m, rfl, _⟩ := h; rfl) (fun f cdv A outer s H vs Q E hr h => ?_)
  obtain ⟨p, a, b, c, m, rfl, hp, m0, m1, q⟩ := h
  refine ⟨_, pss_cons (ps_if (pt_cmpR op_gt (pe_ix ix_lstH (pv 0) pe_int (fun _ _ => rfl)) pe_int (nomark _))
      (pss_cons (ps_set (i := 2) scNext.nd rfl (Or.inl rfl) (pe_op op_mod (pe_ix ix_lstH (pv 0) pe_int (fun _ _ => rfl)) (pv 1)))
      (pss_cons (ps_asg (pe_op op_fdivB (pe_ix ix_lstH (pv 0) pe_int (fun _ _ => rfl)) (pv 1)) (pg_sub (pv 0) pe_int set_list))
      (pss_one (ps_ret (pv 2))))) pss_nil)
    (pss_cons (ps_asg (pe_op op_add (pe_ix ix_lstH (pv 0) pe_int (fun _ _ => rfl)) pe_int) (pg_sub (pv 0) pe_int set_list))
    (pss_one (ps_ret (pe_op op_mod (pe_cal CM hr (pa_cons (pe_ix ix_lstH (pv 0) pe_int (fun _ _ => rfl)) (pa_cons (pe_ix ix_lstH (pv 0) pe_int (fun _ _ => rfl)) pa_nil))) (pv 1))))), ?_⟩
  simp [tSeq, tAsg, tRet, tOp, rI, rI0, tVar, tC, gName, L2.start, CMul, CDiv, tLst, tCons, tNil, tIfS, tTest, tNext, gSub, rIxH, rSetL, tCall, spMixed, hp, atI, ixN, upd_same, upd_upd]
  refine ite2 (fun h1 => ⟨m0, ⟨m0, m1⟩, q _ _ _ (Int.emod_nonneg _ (by omega)) (Int.emod_lt_of_pos _ m0)⟩) (fun h1 v v0 v1 => ⟨m0, q _ _ _ (Int.emod_nonneg _ (by omega)) (Int.emod_lt_of_pos _ m0)⟩)
theorem scCell : FnScope ["_law_script", "_law_k"] ["_law_script", "_law_k"] (defScope sCell) := ⟨rfl, rfl, rfl, by decide +kernel, rfl, by decide +kernel, by decide +kernel⟩
noncomputable def spCell (K : PySem.W.Frag) : Sp := fun vs H Q _ => ∃ (a : Addr) (ns : List Int) (k : Int), vs = [.ref a, .int k] ∧ SqL K H a (ns.map V.int) ∧ 0 ≤ k ∧ ∀ v : Int, Q (.int v) H
theorem okCell (G : FunG K mg "_law_cell_at" sCell ["_law_script", "_law_k"]) (b_len : Blt mg "len") : Cal P w K mg base CX0 1 "_law_cell_at" ["_law_script", "_law_k"] (spCell K) := by
  refine G.ok scCell (fun vs H Q E h => by obtain ⟨a, ns, k, rfl, _⟩ := h; rfl) (fun f cdv A outer s0 H vs Q E hr h => ?_)
  obtain ⟨a, ns, k, rfl, hS, k0, q⟩ := h
  refine ⟨_, (pss_cons (ps_if (pt_cmpR op_lt (pv 1) (pe_blt call_len b_len bo_len (pa_cons (pv 0) pa_nil)) (nomark _)) (pss_one (ps_ret (pe_ix ix_list (pv 0) (pv 1) (fun _ _ => rfl)))) pss_nil)
      (pss_one (ps_ret pe_int))), ?_⟩
  refine ⟨_, rfl, _, rfl, _, _, rfl, .inl ⟨_, hS, rfl⟩, _, _, rfl, rfl, _, rfl, ?_⟩
  refine ite2 (fun h1 => ?_) (fun h1 => q 0)
  have h1' := of_decide_eq_true h1
  obtain ⟨v, e1, e2⟩ := atI_in k0 h1'
  rw [List.getElem?_map] at e2
  cases hz : ns[k.toNat]? with
  | none => rw [hz] at e2; cases e2
  | some z =>
    rw [hz] at e2
    have e3 : V.int z = v := Option.some.inj e2
    subst e3
    exact ⟨_, rfl, _, rfl, a, _, k, _, rfl, rfl, hS, e1, q z⟩
theorem scNames : FnScope ["_law_source", "_law_many", "_law_letters", "_law_start", "_law_stem"] ["_law_source", "_law_many"] (defScope sNames) := ⟨rfl, rfl, rfl, by decide +kernel, rfl, by decide +kernel, by decide +kernel⟩
theorem stem_turns {xs : List Str} {te : TE} {n : Nat} {σ : St} {H1 : Hp} {Q : VK} {acc p : Addr} {ix : List Nat} {rest : List (Option V)} (hn : n ≤ 100) (hs : Src H1 p) (ha : H1 acc = none)
    (hσ : stC xs ix σ = none :: rest)
    (ht : ∀ (k : V) (H2 : Hp) (R : VK), Src H2 p → (∀ (ch : Nat) (H3 : Hp), ch ∈ abc.cps.toList → Keep [p] H2 H3 → Src H3 p → R (.str ⟨#[ch]⟩) H3) → te (some k :: rest) H2 R)
    (q : ∀ (zs : List Str) (H2 : Hp), zs.length = n → (∀ z ∈ zs, LowS z ∧ z.length = 1) → Keep [p] H1 H2 → Src H2 p → H2 acc = some (.lst (zs.map V.str)) → Q (.ref acc) H2) :
    LCW (Itr 0 n) xs ix (gName 0) tYes te σ H1 acc Q := by
  have pa : acc ≠ p := by
    obtain ⟨a, b, c, h⟩ := hs
    exact Ne.symm (ne_of_none h ha)
  refine lc_range0 (by rw [sizeLine_eq]; omega) (fun i ys τ H2 => ∃ (zs : List Str) (k : Option V), τ = k :: rest ∧ ys = zs.map V.str ∧ zs.length = i ∧ (∀ z ∈ zs, LowS z ∧ z.length = 1) ∧ Keep [acc, p] H1 H2 ∧ Src H2 p ∧ H2 acc = some (.lst ys)) ?_ ?_ ?_ ?_
  · obtain ⟨a, b, c, h⟩ := hs
    exact ⟨[], none, hσ, rfl, rfl, (fun z hz => by cases hz), Keep.at (by simp), ⟨a, b, c, by rw [upd_ne (Ne.symm pa)]; exact h⟩, upd_same⟩
  · rintro i ys τ H2 ⟨zs, k, rfl, rfl, hl, _, _, _, h2⟩
    exact ⟨h2, by rw [List.length_map]; omega⟩
  · rintro i ys τ H2 hi ⟨zs, k, rfl, rfl, hl, h1, kp, hs2, h2⟩
    refine ht _ H2 _ hs2 fun ch H3 hc k3 hz68 => ?_
    obtain ⟨a, b, c, hs3⟩ := hz68
    refine ⟨k3 _ _ (by simp [pa]) h2, zs ++ [⟨#[ch]⟩], _, rfl, by simp, by simp [hl], ?_, (kp.trans (k3.mono (by simp))).trans (Keep.at (by simp)), ⟨a, b, c, by rw [upd_ne (Ne.symm pa)]; exact hs3⟩, upd_same⟩
    intro z hz
    rcases List.mem_append.mp hz with z1 | z1
    · exact h1 z z1
    · rw [List.mem_singleton.mp z1]; exact ⟨low_one hc, rfl⟩
  · rintro ys τ H2 ⟨zs, k, rfl, rfl, hl, h1, kp, hs2, h2⟩
    exact q zs H2 hl h1 (kp.drop ha) hs2 h2
theorem sum_low (zs : List Str) (h : ∀ z ∈ zs, LowS z ∧ z.length = 1) : (zs.map (·.length)).sum = zs.length := sum_ones zs fun z hz => (h z hz).2
noncomputable def GoodN (z : Str) : Prop := nameS z = true ∧ z.length ≤ 8
noncomputable def LastL (st : Int) (ws : List Str) : Prop := ∀ (j : Nat) (z : Str), ws[j]? = some z → z.cps.toList.getLast? = abc.cps.toList[((st + (0 + (j : Int))) % 26).toNat]?
theorem LastL.snoc {st : Int} {ws : List Str} {x : Str} {ch : Nat} (h : LastL st ws) (e : abc.cps.toList[((st + (0 + (ws.length : Int))) % 26).toNat]? = some ch) : LastL st (ws ++ [x ++ ⟨#[ch]⟩]) := by
  intro j z hj
  by_cases jl : j < ws.length
  · rw [List.getElem?_append_left jl] at hj
    exact h j z hj
  · rw [List.getElem?_append_right (by omega)] at hj
    have j0 : j = ws.length := by
      have := (List.getElem?_eq_some_iff.mp hj).1
      simp at this; omega
    subst j0
    rw [Nat.sub_self] at hj
    have ez : x ++ (⟨#[ch]⟩ : Str) = z := Option.some.inj hj
    rw [← ez, e]
    show (x.cps ++ #[ch]).toList.getLast? = _
    simp
theorem abc_nodup : abc.cps.toList.Nodup ∧ abc.cps.toList.length = 26 := by decide +kernel
theorem LastL.nodup {st : Int} {ws : List Str} (h : LastL st ws) (hl : ws.length ≤ 26) : ws.Nodup := by
  rw [List.nodup_iff_pairwise_ne, List.pairwise_iff_getElem]
  intro i j hi hj hij e
  have a := h i _ (List.getElem?_eq_getElem hi)
  have b := h j _ (List.getElem?_eq_getElem hj)
  rw [e] at a
  have c := a.symm.trans b
  have ri : ((st + (0 + (i : Int))) % 26).toNat < abc.cps.toList.length := by rw [abc_nodup.2]; omega
  have := (List.getElem?_inj ri abc_nodup.1).mp c
  omega
noncomputable def spNames : Sp := fun vs H Q _ => ∃ (p : Addr) (m : Int), vs = [.ref p, .int m] ∧ Src H p ∧ 0 ≤ m ∧ m ≤ 26 ∧
  ∀ (r : Addr) (zs : List Str) (H' : Hp), H r = none → H' r = some (.lst (zs.map V.str)) → zs.length = m.toNat → (∀ z ∈ zs, GoodN z) → zs.Nodup → Keep [p] H H' → Src H' p → Q (.ref r) H'
theorem okNames (G : FunG K mg "_law_names" sNames ["_law_source", "_law_many"]) (CN : Cal P w K mg base CX0 2 "_law_next" ["_law_source", "_law_many"] spNext) (b_range : Blt mg "range") : Cal P w K mg base CX0 3 "_law_names" ["_law_source", "_law_many"] spNames := by
  refine G.ok scNames (fun vs H Q E h => by obtain ⟨p, m, rfl, _⟩ := h; rfl) (fun f cdv A outer s0 H vs Q E hr h => ?_)
  obtain ⟨p, m, rfl, ⟨a, b, c, hp⟩, m0, m1, q⟩ := h
  have hr2 : Room 2 _ := hr.mono (by decide)
  refine ⟨_, (pss_cons (ps_set (i := 2) scNames.nd rfl (Or.inr rfl) pe_str)
      (pss_cons (ps_set (i := 3) scNames.nd rfl (Or.inr rfl) (pe_cal CN hr2 (pa_cons (pv 0) (pa_cons pe_int pa_nil))))
      (pss_cons (ps_set (i := 4) scNames.nd rfl (Or.inr rfl) (pe_bm PySem.F.plainAttrs_str PySem.F.slot_str_join PySem.F.type_str_join mt_join pe_str (pa_cons (pe_lc1 (N := ["_law_source", "_law_many", "_law_letters", "_law_start", "_law_stem"]) (sc := defScope sNames) (ix := [2, 0]) (by decide +kernel) (pi_range1 rfl b_range.no (pa_cons pe_int pa_nil)) (fun _ _ _ _ => pts_nil) (fun _ _ _ _ => (pe_ix ix_str (pv 1) (pe_cal CN hr2 (pa_cons (pv 2) (pa_cons pe_int pa_nil))) (fun _ _ => rfl)))) pa_nil)))
      (pss_one (ps_ret (pe_lc1 (N := ["_law_source", "_law_many", "_law_letters", "_law_start", "_law_stem"]) (sc := defScope sNames) (ix := [4, 2, 0, 3]) (by decide +kernel) (pi_range1 rfl b_range.no (pa_cons (pv 1) pa_nil)) (fun _ _ _ _ => pts_nil) (fun _ _ _ _ => (pe_op op_add_str (pe_slice sl_str (pv 1) po_none (po_some (pe_cal CN hr2 (pa_cons (pv 3) (pa_cons pe_int pa_nil))))) (pe_ix ix_str (pv 2) (pe_op op_mod (pe_op op_add (pv 4) (pv 0)) pe_int) (fun _ _ => rfl)))))))))), ?_⟩
  refine ⟨_, rfl, p, a, b, c, 26, rfl, hp, by decide, by decide, fun st a1 c1 st0 st1 => ?_⟩
  have k1 : Keep [p] H (upd H p (.lst [.int a1, .int b, .int c1])) := Keep.at (by simp)
  generalize hH1 : upd H p (.lst [.int a1, .int b, .int c1]) = H1 at k1 ⊢
  have s1 : Src H1 p := ⟨a1, b, c1, by rw [← hH1]; exact upd_same⟩
  refine ⟨rfl, 7, rfl, by decide, by decide, fun acc ha => ?_⟩
  refine stem_turns (p := p) (by decide) s1 ha rfl (fun k H2 R ⟨a2, b2, c2, hs⟩ R' => ?_) ?_
  · refine ⟨_, rfl, _, rfl, p, a2, b2, c2, 26, rfl, hs, by decide, by decide, fun v2 a3 c3 w0 w1 => ?_⟩
    obtain ⟨ch, hc1, hc2⟩ := atI_in (xs := abc.cps.toList) w0 (show v2 < ((26 : Nat) : Int) from w1)
    exact ⟨_, v2, ch, rfl, rfl, by decide, hc1, R' ch _ (List.mem_of_getElem? hc2) (Keep.at (by simp)) ⟨a3, b2, c3, upd_same⟩⟩
  intro zs H2 hzl hz k2 s2 h2
  refine ⟨"", acc, zs, rfl, rfl, .of h2, by rw [sum_low zs hz, hzl]; decide, ?_⟩
  have hstem : LowS (Txt.join (Str.ofString "") zs) := low_join zs fun z h => (hz z h).1
  have lstem : (Txt.join (Str.ofString "") zs).length = 7 := by rw [join_len, sum_low zs hz, hzl]; rfl
  generalize Txt.join (Str.ofString "") zs = stem at hstem lstem ⊢
  refine ⟨_, rfl, m, rfl, by omega, by omega, fun acc2 ha2 => ?_⟩
  have pa : acc2 ≠ p := by
    obtain ⟨x, y, z, h⟩ := s2
    exact Ne.symm (ne_of_none h ha2)
  have na : H acc2 = none := k1.none (by simp [pa]) (k2.none (by simp [pa]) ha2)
  refine lc_range0 (by rw [sizeLine_eq]; omega) (fun i ys τ H3 => ∃ (ws : List Str) (k : Option V), τ = k :: [some (.str stem), some (.str abc), some (.ref p), some (.int st)] ∧ ys = ws.map V.str ∧ ws.length = i ∧ (∀ z ∈ ws, GoodN z) ∧ LastL st ws ∧ Keep [acc2, p] H2 H3 ∧ Src H3 p ∧ H3 acc2 = some (.lst ys)) ?_ ?_ ?_ ?_
  · obtain ⟨x, y, z, h⟩ := s2
    exact ⟨[], none, rfl, rfl, rfl, (fun z hz => by cases hz), (fun j z e => by simp at e), Keep.at (by simp), ⟨x, y, z, by rw [upd_ne (Ne.symm pa)]; exact h⟩, upd_same⟩
  · rintro i ys τ H3 ⟨ws, k, rfl, rfl, hl, _, _, _, _, h3⟩
    exact ⟨h3, by rw [List.length_map]; omega⟩
  · rintro i ys τ H3 hi ⟨ws, k, rfl, rfl, hl, h1, hla, kp, ⟨a2, b2, c2, hs⟩, h3⟩
    refine ⟨_, rfl, _, rfl, p, a2, b2, c2, 8, rfl, hs, by decide, by decide, fun v a3 c3 v0 v1 => ⟨v, rfl, stem, rfl, by rw [lstem, sizeLine_eq]; decide, ?_⟩⟩
    refine ⟨_, rfl, _, rfl, _, rfl, _, _, rfl, rfl, _, _, rfl, rfl, (by show (0 : Int) < 26; decide), ?_⟩
    have g0 : 0 ≤ (st + (0 + (i : Int))) % 26 := Int.emod_nonneg _ (by decide)
    have g1 : (st + (0 + (i : Int))) % 26 < 26 := Int.emod_lt_of_pos _ (by decide)
    obtain ⟨ch, hc1, hc2⟩ := atI_in (xs := abc.cps.toList) g0 (show (st + (0 + (i : Int))) % 26 < ((26 : Nat) : Int) from g1)
    have e1 := Txt.slice_le stem none (some v)
    refine ⟨_, _, ch, rfl, rfl, by decide, hc1, _, _, rfl, rfl, by rw [sizeLine_eq]; show _ + 1 ≤ _; omega, ?_⟩
    refine ⟨by rw [upd_ne pa]; exact h3, ws ++ [Txt.slice stem none (some v) ++ ⟨#[ch]⟩], _, rfl, by simp, by simp [hl], ?_, hla.snoc (by rw [hl]; exact hc2), (kp.trans (Keep.at (by simp))).trans (Keep.at (by simp)), ⟨a3, b2, c3, by rw [upd_ne (Ne.symm pa), upd_same]⟩, upd_same⟩
    intro z hz
    rcases List.mem_append.mp hz with z1 | z1
    · exact h1 z z1
    · rw [List.mem_singleton.mp z1]
      have el : (Txt.slice stem none (some v) ++ (⟨#[ch]⟩ : Str)).length = (Txt.slice stem none (some v)).length + 1 := by rw [len_app]; rfl
      exact ⟨name_of (low_app (low_slice hstem _ _) (low_one (List.mem_of_getElem? hc2))) (by omega) (by omega), by omega⟩
  · rintro ys τ H3 ⟨ws, k, rfl, rfl, hl, h1, hla, kp, hs3, h3⟩
    exact q acc2 ws H3 na h3 hl h1 (hla.nodup (by omega)) ((k1.trans k2).trans (kp.drop ha2)) hs3
end
end K21
set_option Elab.async false
set_option linter.all false
set_option maxRecDepth 100000
set_option maxHeartbeats 4000000
namespace K21
open PySem L2
noncomputable abbrev sOneOf : Stmt := top 20
noncomputable abbrev sAreN : Stmt := top 21
noncomputable abbrev sUnl : Stmt := top 22
noncomputable abbrev sNb : Stmt := top 27
noncomputable abbrev sArs : Stmt := top 28
theorem flat_strs (zs : List Str) : (zs.map V.str).all flatV = true := by
  rw [List.all_map, List.all_eq_true]; exact fun _ _ => rfl
theorem manyS_un {zs : List Str} (h : manyS zs = zs.length) : zs.Nodup := by
  have go : ∀ (val : Nat → Str) (n : Nat), (metS val n).length = n → ∀ i j, i < j → j < n → val i ≠ val j := by
    intro val n
    induction n with
    | zero => intro _ i j _ hj; omega
    | succ n ih =>
      intro hl i j hij hj e
      rw [metS_len] at hl
      have le := metS_le val n
      have any : ∀ (m : Nat) (k : Str) (a : Nat), a < m → val a = k → (metS val m).any (· == k) = true := by
        intro m
        induction m with
        | zero => intro k a ha; omega
        | succ m im =>
          intro k a ha ek
          rw [metS_any]
          by_cases ea : a = m
          · subst ea; rw [ek]; simp
          · rw [im k a (by omega) ek]; rfl
      cases c : (metS val n).any (· == val n) with
      | true => rw [c] at hl; simp only [if_true] at hl; omega
      | false =>
        rw [c] at hl
        simp only [Bool.false_eq_true, if_false] at hl
        by_cases ej : j = n
        · subst ej
          rw [any j (val j) i hij e] at c
          cases c
        · exact ih (by omega) i j hij (by omega) e
  rw [List.nodup_iff_pairwise_ne, List.pairwise_iff_getElem]
  intro i j hi hj hij e
  refine go (fun i => zs.getD i Str.empty) zs.length h i j hij hj ?_
  simp only [List.getD_eq_getElem?_getD, List.getElem?_eq_getElem hi, List.getElem?_eq_getElem hj, Option.getD_some]
  exact e
theorem manyS_iff (zs : List Str) : decide (V.int ((manyS zs : Nat) : Int) = V.int (zs.length : Int)) = decide zs.Nodup := by
  by_cases h : zs.Nodup
  · rw [manyS_nodup h]; simp [h]
  · rw [decide_eq_false h]
    refine decide_eq_false fun e => h (manyS_un ?_)
    have := V.int.inj e
    omega
noncomputable def Plain1 (K : PySem.W.Frag) (H : Hp) (x : V) : Prop := (∃ T, PlainT K H x T) ∧ ∀ z, x = .str z → z.length ≤ 1000
theorem Plain1.on {K : PySem.W.Frag} {H H' : Hp} {x : V} (h : Plain1 K H x) (k : Keep [] H H') : Plain1 K H' x := ⟨let ⟨T, p⟩ := h.1; ⟨T, p.keep k⟩, h.2⟩
theorem name_str {x : V} (h : nameV x = true) : ∃ z, x = .str z ∧ nameS z = true := by
  cases x with
  | str z => exact ⟨z, rfl, h⟩
  | _ => cases h
theorem names_strs : ∀ {vs : List V}, vs.all nameV = true → ∃ zs : List Str, vs = zs.map V.str ∧ ∀ z ∈ zs, nameS z = true
  | [], _ => ⟨[], rfl, fun z hz => by cases hz⟩
  | v :: vs, h => by
    rw [List.all_cons, Bool.and_eq_true] at h
    obtain ⟨z, rfl, hz⟩ := name_str h.1
    obtain ⟨zs, rfl, hzs⟩ := names_strs h.2
    refine ⟨z :: zs, rfl, fun y hy => ?_⟩
    rcases List.mem_cons.mp hy with e | e
    · rw [e]; exact hz
    · exact hzs y e
noncomputable def oneV (x : V) (zs : List Str) : Bool := nameV x && inV x (zs.map V.str)
theorem one_bad {x : V} {zs : List Str} (h : ∀ z ∈ zs, x ≠ .str z) : oneV x zs = false := by
  unfold oneV
  cases x with
  | str y =>
    have e : inV (.str y) (zs.map V.str) = false := by
      unfold inV
      rw [List.any_map, List.any_eq_false]
      intro z hz
      show ¬ ((z == y) = true)
      intro e
      exact h z hz (by rw [eq_of_beq e])
    rw [e, Bool.and_false]
  | _ => rfl
section
variable {P : Program} {w : World} {K : PySem.W.Frag} {mg : Str → Option Value} {base : Heap} {C : Addr}
theorem scOneOf : FnScope ["thing", "houses"] ["thing", "houses"] (defScope sOneOf) := ⟨rfl, rfl, rfl, by decide +kernel, rfl, by decide +kernel, by decide +kernel⟩
theorem scAreN : FnScope ["thing"] ["thing"] (defScope sAreN) := ⟨rfl, rfl, rfl, by decide +kernel, rfl, by decide +kernel, by decide +kernel⟩
theorem scUnl : FnScope ["names"] ["names"] (defScope sUnl) := ⟨rfl, rfl, rfl, by decide +kernel, rfl, by decide +kernel, by decide +kernel⟩
theorem scNb : FnScope ["thing", "name"] ["thing", "name"] (defScope sNb) := ⟨rfl, rfl, rfl, by decide +kernel, rfl, by decide +kernel, by decide +kernel⟩
theorem scArs : FnScope ["thing", "neighbours"] ["thing", "neighbours"] (defScope sArs) := ⟨rfl, rfl, rfl, by decide +kernel, rfl, by decide +kernel, by decide +kernel⟩
noncomputable def spOne2 (K : PySem.W.Frag) : Sp := fun vs H Q _ => ∃ (x : V) (T : String) (a : Addr) (zs : List Str), vs = [x, .ref a] ∧ PlainT K H x T ∧ (∀ z, x = .str z → z.length ≤ 1000) ∧ H a = some (.lst (zs.map V.str)) ∧ ∀ H', Keep [] H H' → Q (.bl (oneV x zs)) H'
theorem okOne2 (G : FunG K mg "is_one_of" sOneOf ["thing", "houses"]) (CI : Cal P w K mg base CX0 1 "is_name" ["thing"] (spName K)) : Cal P w K mg base CX0 2 "is_one_of" ["thing", "houses"] (spOne2 K) := by
  refine G.ok scOneOf (fun vs H Q E h => by obtain ⟨x, T, a, zs, rfl, _⟩ := h; rfl) (fun f cdv A outer s H vs Q E hr h => ?_)
  obtain ⟨x, T, a, zs, rfl, pt, sz, ha, q⟩ := h
  have hr1 : Room 1 _ := hr
  refine ⟨_, (pss_one (ps_ret (pe_and (pe_cal CI hr1 (pa_cons (pv 0) pa_nil)) (pe_one (pe_cmpR op_in_seq (pv 0) (pv 1) (by with_unfolding_all rfl)))))), ?_⟩
  refine ⟨_, rfl, x, T, rfl, pt, sz, fun H1 k1 => ⟨_, rfl, ?_⟩⟩
  cases e : nameV x with
  | false =>
    have : oneV x zs = false := by unfold oneV; rw [e]; rfl
    rw [this] at q
    exact ifF rfl (q H1 k1)
  | true =>
    cases x with
    | str z =>
      have : oneV (.str z) zs = inV (.str z) (zs.map V.str) := by unfold oneV; rw [e, Bool.true_and]
      rw [this] at q
      exact ifT rfl ⟨_, rfl, _, rfl, a, _, rfl, .inl (.of (k1 _ _ (by simp) ha)), rfl, flat_strs zs, q H1 k1⟩
    | _ => cases e
noncomputable def Things (K : PySem.W.Frag) (H : Hp) (x : V) (vs : Option (List V)) : Prop := match vs with
  | some l => ∃ a, x = .ref a ∧ H a = some (.lst l) ∧ (∀ v ∈ l, Plain1 K H v) ∧ l.length ≤ 500
  | none => ∃ T, PlainT K H x T ∧ T ≠ "list"
noncomputable def namesV : Option (List V) → Bool
  | some l => l.all nameV
  | none => false
noncomputable def spAreN (K : PySem.W.Frag) : Sp := fun vs H Q _ => ∃ (x : V) (o : Option (List V)), vs = [x] ∧ Things K H x o ∧ ∀ H', Keep [] H H' → Q (.bl (namesV o)) H'
theorem okAreN (G : FunG K mg "are_names" sAreN ["thing"]) (CI : Cal P w K mg base CX0 1 "is_name" ["thing"] (spName K)) (b_isinstance : Blt mg "isinstance") (b_list : Blt mg "list") (b_all : Blt mg "all") : Cal P w K mg base CX0 2 "are_names" ["thing"] (spAreN K) := by
  refine G.ok scAreN (fun vs H Q E h => by obtain ⟨x, o, rfl, _⟩ := h; rfl) (fun f cdv A outer s H vs Q E hr h => ?_)
  obtain ⟨x, o, rfl, th, q⟩ := h
  have hr1 : Room 1 _ := hr
  refine ⟨_, (pss_one (ps_ret (pe_and (pe_blt call_isinst b_isinstance bo_isinstance (pa_cons (pv 0) (pa_cons (pe_ty b_list bo_list) pa_nil))) (pe_one (pe_blt (call_all rfl) b_all bo_all (pa_cons (pe_lc1 (N := ["thing"]) (sc := defScope sAreN) (ix := []) (by decide +kernel) (pi_list (pv 0)) (fun _ _ _ _ => pts_nil) (fun _ _ _ _ => (pe_cal CI hr1 (pa_cons (pv 0) pa_nil)))) pa_nil)))))), ?_⟩
  cases o with
  | none =>
    obtain ⟨T, pt, nT⟩ := th
    have e : (T == "list") = false := by simpa using nT
    exact ⟨_, rfl, _, _, _, false, rfl, pt.ty, (e ▸ pt.kit.2.2.2.1), _, rfl, ifF rfl (q H (Keep.refl _))⟩
  | some l =>
    obtain ⟨a, rfl, ha, pl, ll⟩ := th
    have pt : PlainT K H (.ref a) "list" := .lst ha
    refine ⟨_, rfl, _, _, _, _, rfl, pt.ty, pt.kit.2.2.2.1, _, rfl, ifT rfl ?_⟩
    refine ⟨_, rfl, a, rfl, ⟨_, .of ha⟩, fun acc hacc => ?_⟩
    have aa : a ≠ acc := ne_of_none ha hacc
    refine lc_list0 (K := K) (a := a) (its := l) (by rw [sizeLine_eq]; omega) (fun i ys τ H1 => ∃ k : Option V, τ = [k] ∧ ys = ((l.take i).map nameV).map V.bl ∧ i ≤ l.length ∧ Keep [acc] H H1 ∧ H1 acc = some (.lst ys)) ?_ ?_ ?_ ?_
    · exact ⟨_, rfl, rfl, Nat.zero_le _, Keep.at (by simp), upd_same⟩
    · rintro i ys τ H1 ⟨k, rfl, rfl, il, kp, h1⟩
      exact ⟨h1, by simp; omega, .of (kp _ _ (by simp [aa]) ha)⟩
    · rintro i ys τ H1 x hx ⟨k, rfl, rfl, il, kp, h1⟩
      obtain ⟨⟨T, p1⟩, sz⟩ := pl x (List.mem_of_getElem? hx)
      have il' : i < l.length := (List.getElem?_eq_some_iff.mp hx).1
      refine ⟨_, rfl, x, T, rfl, p1.keep (kp.drop hacc), sz, fun H2 k2 => ⟨k2 _ _ (by simp) h1, _, rfl, ?_, il', (kp.trans (k2.mono (by simp))).trans (Keep.at (by simp)), upd_same⟩⟩
      rw [show l.take (i + 1) = l.take i ++ [x] by rw [List.take_add_one, hx]; rfl, List.map_append, List.map_append]; rfl
    · rintro ys τ H1 ⟨k, rfl, rfl, _, kp, h1⟩
      rw [List.take_length] at h1
      refine ⟨acc, l.map nameV, rfl, .of h1, ?_⟩
      rw [show (l.map nameV).all id = namesV (some l) by rw [List.all_map]; rfl]
      exact q _ (kp.drop hacc)
noncomputable def spUnl : Sp := fun vs H Q _ => ∃ (a : Addr) (zs : List Str), vs = [.ref a] ∧ H a = some (.lst (zs.map V.str)) ∧ zs.length < 1000 ∧ ∀ H', Keep [] H H' → Q (.bl (decide zs.Nodup)) H'
theorem okUnl (G : FunG K mg "are_unlike" sUnl ["names"]) (b_len : Blt mg "len") (b_set : Blt mg "set") : Cal P w K mg base CX0 1 "are_unlike" ["names"] spUnl := by
  refine G.ok scUnl (fun vs H Q E h => by obtain ⟨a, zs, rfl, _⟩ := h; rfl) (fun f cdv A outer s H vs Q E hr h => ?_)
  obtain ⟨a, zs, rfl, ha, lz, q⟩ := h
  refine ⟨_, (pss_one (ps_ret (pe_cmpR op_eq (pe_blt call_lenSet b_len bo_len (pa_cons (pe_callTy (call_setS rfl) rfl b_set.no bo_set (pa_cons (pv 0) pa_nil)) pa_nil)) (pe_blt call_len b_len bo_len (pa_cons (pv 0) pa_nil)) (nomark _)))), ?_⟩
  refine ⟨_, rfl, a, zs, rfl, ha, lz, fun p hp => ⟨p, zs, rfl, upd_same, lz, ?_⟩⟩
  have k1 : Keep [] H (upd H p (setO P w p zs)) := Keep.new hp
  refine ⟨_, rfl, _, _, rfl, .inl ⟨_, .of (k1 _ _ (by simp) ha), rfl⟩, rfl, ?_⟩
  rw [List.length_map, manyS_iff]
  exact q _ k1
noncomputable def nbV (o : Option (List V)) (y : V) : Bool := match o with
  | some l => l.all nameV && decide l.Nodup && !inV y l
  | none => false
theorem nodup_strs (zs : List Str) : decide (zs.map V.str).Nodup = decide zs.Nodup := by
  have : (zs.map V.str).Nodup ↔ zs.Nodup := by
    rw [List.nodup_iff_pairwise_ne, List.nodup_iff_pairwise_ne, List.pairwise_map]
    constructor
    · exact fun h => h.imp fun n e => n (by rw [e])
    · exact fun h => h.imp fun n e => n (V.str.inj e)
  by_cases h : zs.Nodup
  · rw [decide_eq_true h, decide_eq_true (this.mpr h)]
  · rw [decide_eq_false h, decide_eq_false (fun e => h (this.mp e))]
noncomputable def spNb (K : PySem.W.Frag) : Sp := fun vs H Q _ => ∃ (x : V) (o : Option (List V)) (y : Str), vs = [x, .str y] ∧ Things K H x o ∧ ∀ H', Keep [] H H' → Q (.bl (nbV o (.str y))) H'
theorem okNb (G : FunG K mg "are_neighbours" sNb ["thing", "name"]) (CAN : Cal P w K mg base CX0 2 "are_names" ["thing"] (spAreN K)) (CAU : Cal P w K mg base CX0 1 "are_unlike" ["names"] spUnl) : Cal P w K mg base CX0 3 "are_neighbours" ["thing", "name"] (spNb K) := by
  refine G.ok scNb (fun vs H Q E h => by obtain ⟨x, o, y, rfl, _⟩ := h; rfl) (fun f cdv A outer s H vs Q E hr h => ?_)
  obtain ⟨x, o, y, rfl, th, q⟩ := h
  have hr2 : Room 2 _ := hr
  have hr1 : Room 1 _ := hr.mono (by decide)
  refine ⟨_, (pss_one (ps_ret (pe_and (pe_cal CAN hr2 (pa_cons (pv 0) pa_nil)) (pe_and (pe_cal CAU hr1 (pa_cons (pv 0) pa_nil)) (pe_one (pe_cmpR op_notIn_seq (pv 1) (pv 0) (by with_unfolding_all rfl))))))), ?_⟩
  refine ⟨_, rfl, x, o, rfl, th, fun H1 k1 => ⟨_, rfl, ?_⟩⟩
  cases o with
  | none => exact ifF rfl (q H1 k1)
  | some l =>
    obtain ⟨a, rfl, ha, pl, ll⟩ := th
    cases hn : l.all nameV with
    | false =>
      have e : nbV (some l) (.str y) = false := by show (l.all nameV && decide l.Nodup && !inV (V.str y) l) = false; rw [hn]; rfl
      rw [e] at q
      have e2 : namesV (some l) = false := hn
      rw [e2]
      exact ifF rfl (q H1 k1)
    | true =>
      obtain ⟨zs, rfl, hzs⟩ := names_strs hn
      have e2 : namesV (some (zs.map V.str)) = true := hn
      rw [e2]
      refine ifT rfl ?_
      have ha1 := k1 _ _ (by simp) ha
      rw [List.length_map] at ll
      refine ⟨_, rfl, a, zs, rfl, ha1, by omega, fun H2 k2 => ⟨_, rfl, ?_⟩⟩
      have k02 := k1.trans k2
      cases hd : decide zs.Nodup with
      | false =>
        have e : nbV (some (zs.map V.str)) (.str y) = false := by show ((zs.map V.str).all nameV && decide (zs.map V.str).Nodup && !inV (V.str y) (zs.map V.str)) = false; rw [hn, nodup_strs, hd]; rfl
        rw [e] at q
        exact ifF rfl (q H2 k02)
      | true =>
        have e : nbV (some (zs.map V.str)) (.str y) = !inV (.str y) (zs.map V.str) := by show ((zs.map V.str).all nameV && decide (zs.map V.str).Nodup && !inV (V.str y) (zs.map V.str)) = _; rw [hn, nodup_strs, hd]; rfl
        rw [e] at q
        exact ifT rfl ⟨_, rfl, _, rfl, a, _, rfl, .inl (.of (k02 _ _ (by simp) ha)), rfl, flat_strs zs, q H2 k02⟩
noncomputable def arrV (nb : List Str) (x : V) : Bool := decide (x = .non) || oneV x nb
noncomputable def arsV (nb : List Str) : Option (List V) → Bool
  | some l => decide (l ≠ []) && l.all (arrV nb)
  | none => false
noncomputable def spArs (K : PySem.W.Frag) : Sp := fun vs H Q _ => ∃ (x : V) (o : Option (List V)) (b : Addr) (nb : List Str), vs = [x, .ref b] ∧ Things K H x o ∧ H b = some (.lst (nb.map V.str)) ∧ ∀ H', Keep [] H H' → Q (.bl (arsV nb o)) H'
theorem okArs (G : FunG K mg "are_arrows" sArs ["thing", "neighbours"]) (CO2 : Cal P w K mg base CX0 2 "is_one_of" ["thing", "houses"] (spOne2 K)) (b_isinstance : Blt mg "isinstance") (b_list : Blt mg "list") (b_len : Blt mg "len") (b_all : Blt mg "all") : Cal P w K mg base CX0 3 "are_arrows" ["thing", "neighbours"] (spArs K) := by
  refine G.ok scArs (fun vs H Q E h => by obtain ⟨x, o, b, nb, rfl, _⟩ := h; rfl) (fun f cdv A outer s H vs Q E hr h => ?_)
  obtain ⟨x, o, b, nb, rfl, th, hb, q⟩ := h
  have hr2 : Room 2 _ := hr
  refine ⟨_, (pss_cons (ps_if (PW.pt (pw_or (pt_not (pt_val (pe_blt call_isinst b_isinstance bo_isinstance (pa_cons (pv 0) (pa_cons (pe_ty b_list bo_list) pa_nil))))) (pw_or1 (pt_cmpR op_eq (pe_blt call_len b_len bo_len (pa_cons (pv 0) pa_nil)) pe_int (nomark _))))) (pss_one (ps_ret pe_bl)) pss_nil)
      (pss_one (ps_ret (pe_blt (call_all rfl) b_all bo_all (pa_cons (pe_lc1 (N := ["thing", "neighbours"]) (sc := defScope sArs) (ix := [1]) (by decide +kernel) (pi_list (pv 0)) (fun _ _ _ _ => pts_nil) (fun _ _ _ _ => (pe_or (pe_cmpR op_isN (pv 0) pe_non (nomark _)) (pe_one (pe_cal CO2 hr2 (pa_cons (pv 0) (pa_cons (pv 1) pa_nil))))))) pa_nil))))), ?_⟩
  cases o with
  | none =>
    obtain ⟨T, pt, nT⟩ := th
    have e : (T == "list") = false := by simpa using nT
    exact ⟨_, rfl, _, _, _, false, rfl, pt.ty, (e ▸ pt.kit.2.2.2.1), _, rfl, ifT rfl (q H (Keep.refl _))⟩
  | some l =>
    obtain ⟨a, rfl, ha, pl, ll⟩ := th
    have pt : PlainT K H (.ref a) "list" := .lst ha
    refine ⟨_, rfl, _, _, _, true, rfl, pt.ty, pt.kit.2.2.2.1, _, rfl, ifF rfl ?_⟩
    refine ⟨_, rfl, _, _, rfl, .inl ⟨_, .of ha, rfl⟩, rfl, _, rfl, ?_⟩
    cases hl : l with
    | nil =>
      subst hl
      exact ifT rfl (q H (Keep.refl _))
    | cons v0 l0 =>
    rw [← hl]
    refine ifF (by rw [hl]; simp; omega) ?_
    refine ⟨_, rfl, a, rfl, ⟨_, .of ha⟩, fun acc hacc => ?_⟩
    have aa : a ≠ acc := ne_of_none ha hacc
    refine lc_list0 (K := K) (a := a) (its := l) (by rw [sizeLine_eq]; omega) (fun i ys τ H1 => ∃ k : Option V, τ = [k, some (.ref b)] ∧ ys = ((l.take i).map (arrV nb)).map V.bl ∧ i ≤ l.length ∧ Keep [acc] H H1 ∧ H1 acc = some (.lst ys)) ?_ ?_ ?_ ?_
    · exact ⟨_, rfl, rfl, Nat.zero_le _, Keep.at (by simp), upd_same⟩
    · rintro i ys τ H1 ⟨k, rfl, rfl, il, kp, h1⟩
      exact ⟨h1, by simp; omega, .of (kp _ _ (by simp [aa]) ha)⟩
    · rintro i ys τ H1 x hx ⟨k, rfl, rfl, il, kp, h1⟩
      obtain ⟨⟨T, p1⟩, sz⟩ := pl x (List.mem_of_getElem? hx)
      have il' : i < l.length := (List.getElem?_eq_some_iff.mp hx).1
      have et : l.take (i + 1) = l.take i ++ [x] := by rw [List.take_add_one, hx]; rfl
      refine ⟨_, rfl, rfl, _, rfl, ?_⟩
      by_cases hn : x = .non
      · refine ifT (by rw [hn]; rfl) ⟨h1, _, rfl, ?_, il', kp.trans (Keep.at (by simp)), upd_same⟩
        rw [et, List.map_append, List.map_append]
        have : arrV nb x = true := by unfold arrV; rw [decide_eq_true hn]; rfl
        show _ = _ ++ [V.bl (arrV nb x)]
        rw [this]
      · refine ifF (by simp [hn]) ?_
        refine ⟨_, rfl, _, rfl, x, T, b, nb, rfl, p1.keep (kp.drop hacc), sz, (kp.drop hacc) _ _ (by simp) hb, fun H2 k2 => ⟨k2 _ _ (by simp) h1, _, rfl, ?_, il', (kp.trans (k2.mono (by simp))).trans (Keep.at (by simp)), upd_same⟩⟩
        rw [et, List.map_append, List.map_append]
        have : arrV nb x = oneV x nb := by unfold arrV; rw [decide_eq_false hn]; rfl
        show _ = _ ++ [V.bl (arrV nb x)]
        rw [this]
    · rintro ys τ H1 ⟨k, rfl, rfl, _, kp, h1⟩
      rw [List.take_length] at h1
      refine ⟨acc, l.map (arrV nb), rfl, .of h1, ?_⟩
      have e : arsV nb (some l) = (l.map (arrV nb)).all id := by
        show (decide (l ≠ []) && l.all (arrV nb)) = _
        rw [decide_eq_true (by rw [hl]; simp), List.all_map]; rfl
      rw [← e]
      exact q _ (kp.drop hacc)
end
end K21
set_option Elab.async false
set_option linter.all false
set_option maxRecDepth 100000
set_option maxHeartbeats 4000000
namespace K21
open PySem L2
noncomputable abbrev sHI : Stmt := inClass (top 31) 0
noncomputable def hfl (nm : V) (nl sl : Addr) : List (Str × V) := [("name", nm), ("nearby", .ref nl), ("seats", .ref sl)]
theorem hn1 : ¬ (("name" : Str) = "nearby") := by decide +kernel
theorem hn2 : ¬ (("name" : Str) = "seats") := by decide +kernel
theorem hn3 : ¬ (("nearby" : Str) = "seats") := by decide +kernel
theorem hput (nm : V) (nl sl : Addr) : putF "seats" (.ref sl) (putF "nearby" (.ref nl) (putF "name" nm [])) = hfl nm nl sl := by
  unfold hfl
  simp only [putF, if_neg hn1, if_neg hn2, if_neg hn3]
structure HouseT (K : PySem.W.Frag) (C : Addr) : Prop where
  cl : Cls K C
  nN : NoAttr K C "name"
  nB : NoAttr K C "nearby"
  nS : NoAttr K C "seats"
theorem SeatAt.keepS {C : Addr} {S : List Addr} {H H' : Hp} {p wl : Addr} {s : SS} (A : SeatAt C H p wl s) (k : Keep S H H') (hp : p ∉ S) (hw : wl ∉ S) (ht : ∀ b ∈ S, ∀ xs, H b ≠ some (.tup xs)) : SeatAt C H' p wl s := by
  obtain ⟨⟨dx, h⟩, ⟨ps, e, r⟩, l⟩ := A
  exact ⟨⟨dx, k _ _ hp h⟩, ⟨ps, k _ _ hw e, paired_keep k ht r⟩, l⟩
noncomputable def HouseAt (B : Hp) (C CS : Addr) (H : Hp) (p : Addr) (nm : Str) (nb : List Str) (xs : List (Addr × Addr)) (ss : List SS) : Prop := ∃ (dx nl sl : Addr), (B nl = none ∧ B sl = none ∧ ∀ x ∈ xs, B x.1 = none ∧ B x.2 = none) ∧
  H p = some (.ins C dx (hfl (.str nm) nl sl)) ∧ H nl = some (.lst (nb.map V.str)) ∧ H sl = some (.lst (xs.map fun x => V.ref x.1)) ∧ xs.length = ss.length ∧ ∀ (i : Nat) (x : Addr × Addr) (s : SS), xs[i]? = some x → ss[i]? = some s → SeatAt CS H x.1 x.2 s
theorem HouseAt.on {B : Hp} {C CS : Addr} {H H' : Hp} {p : Addr} {nm : Str} {nb : List Str} {xs : List (Addr × Addr)} {ss : List SS} (h : HouseAt B C CS H p nm nb xs ss) (k : Keep [] H H') : HouseAt B C CS H' p nm nb xs ss := by
  obtain ⟨dx, nl, sl, b, h1, h2, h3, h4, h5⟩ := h
  exact ⟨dx, nl, sl, b, k _ _ (by simp) h1, k _ _ (by simp) h2, k _ _ (by simp) h3, h4, fun i x s e1 e2 => (h5 i x s e1 e2).keep k⟩
theorem HouseAt.keep {B : Hp} {C CS : Addr} {H H' : Hp} {p : Addr} {nm : Str} {nb : List Str} {xs : List (Addr × Addr)} {ss : List SS} {S : List Addr} (h : HouseAt B C CS H p nm nb xs ss) (k : Keep S H H') (hS : ∀ b ∈ S, b ≠ p ∧ B b ≠ none ∧ ∀ ys, H b ≠ some (.tup ys)) : HouseAt B C CS H' p nm nb xs ss := by
  obtain ⟨dx, nl, sl, ⟨b1, b2, b3⟩, h1, h2, h3, h4, h5⟩ := h
  have far : ∀ {u : Addr}, B u = none → u ∉ S := fun {u} hb hm => (hS u hm).2.1 hb
  exact ⟨dx, nl, sl, ⟨b1, b2, b3⟩, k _ _ (fun hm => (hS p hm).1 rfl) h1, k _ _ (far b1) h2, k _ _ (far b2) h3, h4, fun i x s e1 e2 => (h5 i x s e1 e2).keepS k (far (b3 x (List.mem_of_getElem? e1)).1) (far (b3 x (List.mem_of_getElem? e1)).2) fun b hb => (hS b hb).2.2⟩
noncomputable def freshS (ars : List (Option Str)) : List SS := ars.map fun a => ⟨a, [], none, false⟩
section
variable {P : Program} {w : World} {K : PySem.W.Frag} {mg : Str → Option Value} {base : Heap} {C CS : Addr}
theorem scHI : FnScope ["self", "name", "neighbours", "arrows"] ["self", "name", "neighbours", "arrows"] (defScope sHI) := ⟨rfl, rfl, rfl, by decide +kernel, rfl, by decide +kernel, by decide +kernel⟩
noncomputable def spHI (K : PySem.W.Frag) (C CS : Addr) : Sp := fun vs H Q _ => ∃ (p dx a b : Addr) (nm : Str) (nb : List Str) (ars : List (Option Str)), vs = [.ref p, .str nm, .ref a, .ref b] ∧ H p = some (.ins C dx []) ∧ H a = some (.lst (nb.map V.str)) ∧ H b = some (.lst (ars.map optV)) ∧ GoodN nm ∧ (∀ z ∈ nb, GoodN z) ∧ nb.Nodup ∧ nm ∉ nb ∧ nb.length ≤ 100 ∧ ars ≠ [] ∧ ars.length ≤ 100 ∧ (∀ z, some z ∈ ars → z ∈ nb) ∧
  ∀ (xs : List (Addr × Addr)) (H' : Hp), HouseAt H C CS H' p nm nb xs (freshS ars) → Keep [p] H H' → Q .non H'
theorem okHI {fI : Addr} {fd : FuncData} (T : HouseT K C) (G : Fun K "__init__" "House.__init__" sHI fI fd) (CI : Cal P w K mg base CX0 1 "is_name" ["thing"] (spName K)) (CNb : Cal P w K mg base CX0 3 "are_neighbours" ["thing", "name"] (spNb K)) (CAr : Cal P w K mg base CX0 3 "are_arrows" ["thing", "neighbours"] (spArs K)) (MKS : MkCal P w K mg base CX0 2 CS "Seat" ["self", "arrow"] (spInit CS)) (b_list : Blt mg "list") :
    FnOk P w K mg base CX0 4 fI fd ["self", "name", "neighbours", "arrows"] (spHI K C CS) := by
  refine G.ok scHI (fun vs H Q E h => by obtain ⟨p, dx, a, b, nm, nb, ars, rfl, _⟩ := h; rfl) (fun cdv A outer s0 H vs Q E hr h => ?_)
  obtain ⟨p, dx, a, b, nm, nb, ars, rfl, hp, ha, hb, gn, gb, nd, nin, lb, nar, lar, arin, q⟩ := h
  have hr3 : Room 3 _ := hr
  have hr1 : Room 1 _ := hr.mono (by decide)
  refine ⟨_, (pss_cons (ps_if (pt_not (pt_val (pe_cal CI hr1 (pa_cons (pv 1) pa_nil)))) (pss_one ps_never) pss_nil)
      (pss_cons (ps_if (pt_not (pt_val (pe_cal CNb hr3 (pa_cons (pv 2) (pa_cons (pv 1) pa_nil))))) (pss_one ps_never) pss_nil)
      (pss_cons (ps_if (pt_not (pt_val (pe_cal CAr hr3 (pa_cons (pv 3) (pa_cons (pv 2) pa_nil))))) (pss_one ps_never) pss_nil)
      (pss_cons (ps_fld (pv 0) (pv 1) rfl)
      (pss_cons (ps_fld (pv 0) (pe_callTy call_list_of rfl b_list.no bo_list (pa_cons (pv 2) pa_nil)) rfl)
      (pss_one (ps_fld (pv 0) (pe_lc1 (N := ["self", "name", "neighbours", "arrows"]) (sc := defScope sHI) (ix := []) (by decide +kernel) (pi_list (pv 3)) (fun _ _ _ _ => pts_nil) (fun _ _ _ _ => (pe_mk MKS hr3 (pa_cons (pv 0) pa_nil)))) rfl))))))), ?_⟩
  refine ⟨_, rfl, .str nm, "str", rfl, .str nm, (fun z e => by cases e; exact Nat.le_trans gn.2 (by decide)), fun H1 k1 => ⟨_, rfl, ifF (by rw [show nameV (.str nm) = true from gn.1]; rfl) ?_⟩⟩
  have plS : ∀ (zs : List Str) (H : Hp), (∀ z ∈ zs, GoodN z) → ∀ v ∈ zs.map V.str, Plain1 K H v := fun zs H g v hv => by
    obtain ⟨z, hz, rfl⟩ := List.mem_map.mp hv
    exact ⟨⟨_, .str z⟩, fun y e => by cases e; exact Nat.le_trans (g z hz).2 (by decide)⟩
  refine ⟨_, rfl, _, rfl, .ref a, some (nb.map V.str), nm, rfl, ⟨a, rfl, k1 _ _ (by simp) ha, plS nb H1 gb, by rw [List.length_map]; omega⟩, fun H2 k2 => ⟨_, rfl, ifF ?_ ?_⟩⟩
  · have e1 : (nb.map V.str).all nameV = true := by
      rw [List.all_map, List.all_eq_true]
      exact fun z hz => (gb z hz).1
    have e2 : inV (.str nm) (nb.map V.str) = false := by
      unfold inV
      rw [List.any_map, List.any_eq_false]
      intro z hz e
      have : z = nm := eq_of_beq (show (z == nm) = true from e)
      exact nin (this ▸ hz)
    show (!((nb.map V.str).all nameV && decide (nb.map V.str).Nodup && !inV (V.str nm) (nb.map V.str))) = false
    rw [e1, nodup_strs, decide_eq_true nd, e2]; rfl
  have k02 := k1.trans k2
  refine ⟨_, rfl, _, rfl, .ref b, some (ars.map optV), a, nb, rfl, ⟨b, rfl, k02 _ _ (by simp) hb, ?_, by rw [List.length_map]; omega⟩, k02 _ _ (by simp) ha, fun H3 k3 => ⟨_, rfl, ifF ?_ ?_⟩⟩
  · intro v hv
    obtain ⟨o, ho, rfl⟩ := List.mem_map.mp hv
    cases o with
    | none => exact ⟨⟨_, .non⟩, fun y e => by cases e⟩
    | some z => exact ⟨⟨_, .str z⟩, fun y e => by cases e; exact Nat.le_trans (gb z (arin z ho)).2 (by decide)⟩
  · have e1 : (ars.map optV).all (arrV nb) = true := by
      rw [List.all_map, List.all_eq_true]
      intro o ho
      cases o with
      | none => rfl
      | some z =>
        have m := arin z ho
        show (decide (V.str z = .non) || (nameV (.str z) && inV (.str z) (nb.map V.str))) = true
        have e2 : inV (.str z) (nb.map V.str) = true := by
          unfold inV
          rw [List.any_map, List.any_eq_true]
          exact ⟨z, m, by show (z == z) = true; simp⟩
        rw [e2, show nameV (.str z) = true from (gb z m).1]; simp
    show (!(decide (ars.map optV ≠ []) && (ars.map optV).all (arrV nb))) = false
    rw [e1, decide_eq_true (by simpa using nar)]; rfl
  have k03 := k02.trans k3
  have hp3 := k03 _ _ (by simp) hp
  refine ⟨_, rfl, _, rfl, p, C, dx, _, rfl, hp3, T.cl, T.nN, by show 0 < 1000; decide, ?_⟩
  generalize hH4 : upd H3 p (.ins C dx (putF "name" (.str nm) [])) = H4
  have k4 : Keep [p] H H4 := by rw [← hH4]; exact (k03.mono (by simp)).trans (Keep.at (by simp))
  have hp4 : H4 p = some (.ins C dx (putF "name" (.str nm) [])) := by rw [← hH4]; exact upd_same
  have ap : a ≠ p := fun e => by rw [e, hp] at ha; cases ha
  have bp : b ≠ p := fun e => by rw [e, hp] at hb; cases hb
  refine ⟨_, rfl, a, _, rfl, .inl (.of (k4 _ _ (by simp [ap]) ha)), fun nl hnl => ?_⟩
  have pnl : p ≠ nl := ne_of_none hp4 hnl
  refine ⟨_, rfl, p, C, dx, _, rfl, by rw [upd_ne pnl]; exact hp4, T.cl, T.nB, by show 1 < 1000; decide, ?_⟩
  generalize hH5 : upd (upd H4 nl (.lst (nb.map V.str))) p (.ins C dx (putF "nearby" (.ref nl) (putF "name" (.str nm) []))) = H5
  have k5 : Keep [p] H4 H5 := by rw [← hH5]; exact (Keep.new hnl).trans (Keep.at (by simp))
  have hp5 : H5 p = some (.ins C dx (putF "nearby" (.ref nl) (putF "name" (.str nm) []))) := by rw [← hH5]; exact upd_same
  have hn5 : H5 nl = some (.lst (nb.map V.str)) := by rw [← hH5, upd_ne pnl.symm]; exact upd_same
  have k05 := k4.trans k5
  have bnl : H nl = none := k4.none (by simp [pnl.symm]) hnl
  have hb5 := k05 _ _ (by simp [bp]) hb
  refine ⟨_, rfl, b, rfl, ⟨_, .of hb5⟩, fun ls hls => ?_⟩
  have bls : b ≠ ls := ne_of_none hb5 hls
  have pls : p ≠ ls := ne_of_none hp5 hls
  have nlls : nl ≠ ls := ne_of_none hn5 hls
  refine lc_list0 (K := K) (a := b) (its := ars.map optV) (by rw [List.length_map, sizeLine_eq]; omega) (fun i ys τ H6 => ∃ (ps : List (Addr × Addr)) (kk : Option V), τ = [kk] ∧ ys = ps.map (fun p => V.ref p.1) ∧ ps.length = i ∧ (∀ (j : Nat) (x : Addr × Addr), ps[j]? = some x → SeatAt CS H6 x.1 x.2 ⟨ars.getD j none, [], none, false⟩) ∧
    (∀ x ∈ ps, H5 x.1 = none ∧ H5 x.2 = none ∧ x.1 ≠ ls ∧ x.2 ≠ ls) ∧ Keep [ls] H5 H6 ∧ H6 ls = some (.lst ys)) ?_ ?_ ?_ ?_
  · exact ⟨[], none, rfl, rfl, rfl, (fun j p e => by cases e), (fun p hp => by cases hp), Keep.at (by simp), upd_same⟩
  · rintro i ys τ H6 ⟨ps, kk, rfl, rfl, hl, _, _, kp, h6⟩
    exact ⟨h6, by rw [List.length_map]; omega, .of (kp _ _ (by simp [bls]) hb5)⟩
  · rintro i ys τ H6 x hx ⟨ps, kk, rfl, rfl, hl, hse, hfr, kp, h6⟩
    rw [List.getElem?_map] at hx
    cases ei : ars[i]? with
    | none => rw [ei] at hx; cases hx
    | some ar =>
    rw [ei] at hx
    have ex : optV ar = x := Option.some.inj hx
    subst ex
    have eg : ars.getD i none = ar := by rw [List.getD_eq_getElem?_getD, ei]; rfl
    refine ⟨_, rfl, fun x dx hx hdx ndx => ⟨x, dx, ar, rfl, upd_same, (fun z e => by have g := gb z (arin z (by rw [← e]; exact List.mem_of_getElem? ei)); exact ⟨g.1, Nat.le_trans g.2 (by decide)⟩), fun wl H7 hwl S7 k7 => ⟨rfl, ?_⟩⟩⟩
    have k67 : Keep [] H6 H7 := ((Keep.new hdx).trans (Keep.new (by rw [upd_ne (Ne.symm ndx)]; exact hx))).under k7 (by intro b hb; rw [List.mem_singleton.mp hb]; exact hx)
    have hwl6 : H6 wl = none := (upd_none (upd_none hwl).1).1
    have h67 := k67 _ _ (by simp) h6
    have xls : x ≠ ls := Ne.symm (ne_of_none h6 hx)
    have wls : wl ≠ ls := Ne.symm (ne_of_none h6 hwl6)
    have nt : ∀ b ∈ [ls], ∀ xs, H7 b ≠ some (.tup xs) := fun b hb xs z => by rw [List.mem_singleton.mp hb, h67] at z; cases z
    refine ⟨h67, ps ++ [(x, wl)], _, rfl, by simp, by simp [hl], ?_, ?_, (kp.trans (k67.mono (by simp))).trans (Keep.at (by simp)), upd_same⟩
    · intro j x' hj
      have kl : Keep [ls] H7 (upd H7 ls (.lst (List.map (fun p => V.ref p.1) ps ++ [V.ref x]))) := Keep.at (by simp)
      by_cases hjl : j < ps.length
      · rw [List.getElem?_append_left hjl] at hj
        obtain ⟨_, _, f1, f2⟩ := hfr x' (List.mem_of_getElem? hj)
        exact ((hse j x' hj).keep k67).keepS kl (by simpa using f1) (by simpa using f2) nt
      · rw [List.getElem?_append_right (by omega)] at hj
        have ej : j = i := by
          have := (List.getElem?_eq_some_iff.mp hj).1
          simp at this; omega
        subst ej
        rw [hl, Nat.sub_self] at hj
        cases hj
        rw [eg]
        exact S7.keepS kl (by simpa using xls) (by simpa using wls) nt
    · intro x' hx'
      rcases List.mem_append.mp hx' with h | h
      · exact hfr x' h
      · rw [List.mem_singleton.mp h]
        exact ⟨kp.none (by simpa using xls) hx, kp.none (by simpa using wls) hwl6, xls, wls⟩
  rintro ys τ H6 ⟨ps, kk, rfl, rfl, hl, hse, hfr, kp, h6⟩
  rw [List.length_map] at hl
  have hp6 := kp _ _ (by simp [pls]) hp5
  refine ⟨_, rfl, p, C, dx, _, rfl, hp6, T.cl, T.nS, by show 2 < 1000; decide, ?_⟩
  rw [hput]
  have k7 : Keep [p] H6 (upd H6 p (.ins C dx (hfl (.str nm) nl ls))) := Keep.at (by simp)
  have e7 : upd H6 p (.ins C dx (hfl (.str nm) nl ls)) p = some (.ins C dx (hfl (.str nm) nl ls)) := upd_same
  generalize upd H6 p (.ins C dx (hfl (.str nm) nl ls)) = H7 at k7 e7
  have H0 : ∀ {u : Addr}, H5 u = none → H u = none ∧ u ≠ p := fun {u} hu => by
    have un : u ≠ p := fun e => by rw [e, hp5] at hu; cases hu
    exact ⟨k05.none (by simp [un]) hu, un⟩
  have ntp : ∀ b ∈ [p], ∀ xs, H6 b ≠ some (.tup xs) := fun b hb xs z => by rw [List.mem_singleton.mp hb, hp6] at z; cases z
  refine q ps H7 ⟨dx, nl, ls, ⟨bnl, (H0 hls).1, fun x hx => ⟨(H0 (hfr x hx).1).1, (H0 (hfr x hx).2.1).1⟩⟩, e7, k7 _ _ (by simp [pnl.symm]) (kp _ _ (by simp [nlls]) hn5), k7 _ _ (by simp [pls.symm]) h6, by unfold freshS; rw [List.length_map]; exact hl, fun i x s e1 e2 => ?_⟩ ?_
  · unfold freshS at e2
    rw [List.getElem?_map] at e2
    cases ei : ars[i]? with
    | none => rw [ei] at e2; cases e2
    | some ar =>
    rw [ei] at e2
    have es : (⟨ar, [], none, false⟩ : SS) = s := Option.some.inj e2
    subst es
    have eg : ars.getD i none = ar := by rw [List.getD_eq_getElem?_getD, ei]; rfl
    have sa := hse i x e1
    rw [eg] at sa
    have hx := hfr x (List.mem_of_getElem? e1)
    exact sa.keepS k7 (by simpa using (H0 hx.1).2) (by simpa using (H0 hx.2.1).2) ntp
  · exact (k05.trans ((kp.drop hls).mono (by simp))).trans k7
noncomputable def spHX (K : PySem.W.Frag) (CN : Addr) : Sp := fun vs H _ E => ∃ (p : Addr) (x y z : V) (o1 o2 : Option (List V)), vs = [.ref p, x, y, z] ∧ Plain1 K H x ∧ Things K H y o1 ∧ Things K H z o2 ∧
  (nameV x = false ∨ (∃ nm, x = .str nm ∧ nameV x = true ∧ (nbV o1 x = false ∨ ∃ (a : Addr) (nb : List Str), y = .ref a ∧ o1 = some (nb.map V.str) ∧ nbV o1 x = true ∧ arsV nb o2 = false))) ∧ ∀ H', Keep [] H H' → E (.ref CN) none H'
theorem Things.on {H H' : Hp} {x : V} {o : Option (List V)} (h : Things K H x o) (k : Keep [] H H') : Things K H' x o := by
  cases o with
  | none => obtain ⟨T, p, n⟩ := h; exact ⟨T, p.keep k, n⟩
  | some l => obtain ⟨a, e, ha, pl, ll⟩ := h; exact ⟨a, e, k _ _ (by simp) ha, fun v hv => (pl v hv).on k, ll⟩
theorem okHX {fI : Addr} {fd : FuncData} {CN : Addr} (G : Fun K "__init__" "House.__init__" sHI fI fd) (CI : Cal P w K mg base CX0 1 "is_name" ["thing"] (spName K)) (CNb : Cal P w K mg base CX0 3 "are_neighbours" ["thing", "name"] (spNb K)) (CAr : Cal P w K mg base CX0 3 "are_arrows" ["thing", "neighbours"] (spArs K)) (exS : ExcC K mg "NoSeat" CN) :
    FnOk P w K mg base (CXE P w) 4 fI fd ["self", "name", "neighbours", "arrows"] (spHX K CN) := by
  refine G.okX scHI (fun vs H Q E h => by obtain ⟨p, x, y, z, o1, o2, rfl, _⟩ := h; rfl) (fun cdv A outer s0 H vs Q E hr h => ?_)
  obtain ⟨p, x, y, z, o1, o2, rfl, ⟨⟨T, pt⟩, sz⟩, t1, t2, bad, q⟩ := h
  have hr3 : Room 3 _ := hr.mono (by decide)
  have hr1 : Room 1 _ := hr.mono (by decide)
  refine ⟨_, (pss_cons (ps_if (pt_not (pt_val (pe_cal CI hr1 (pa_cons (pv 1) pa_nil)))) (pss_one (ps_raise (raiseOk_cx hr) exS)) pss_nil)
      (pss_cons (ps_if (pt_not (pt_val (pe_cal CNb hr3 (pa_cons (pv 2) (pa_cons (pv 1) pa_nil))))) (pss_one (ps_raise (raiseOk_cx hr) exS)) pss_nil)
      (pss_cons (ps_if (pt_not (pt_val (pe_cal CAr hr3 (pa_cons (pv 3) (pa_cons (pv 2) pa_nil))))) (pss_one (ps_raise (raiseOk_cx hr) exS)) pss_nil)
      pss_never))), ?_⟩
  refine ⟨_, rfl, x, T, rfl, pt, sz, fun H1 k1 => ⟨_, rfl, ?_⟩⟩
  rcases bad with e | ⟨nm, rfl, e, bad⟩
  · rw [e]; exact ifT rfl (q H1 k1)
  rw [e]
  refine ifF rfl ?_
  refine ⟨_, rfl, _, rfl, y, o1, nm, rfl, t1.on k1, fun H2 k2 => ⟨_, rfl, ?_⟩⟩
  have k02 := k1.trans k2
  rcases bad with e | ⟨a, nb, rfl, rfl, e, e2⟩
  · rw [e]; exact ifT rfl (q H2 k02)
  rw [e]
  refine ifF rfl ?_
  obtain ⟨a', ea, ha, _⟩ := t1
  cases ea
  refine ⟨_, rfl, _, rfl, z, o2, a, nb, rfl, t2.on k02, k02 _ _ (by simp) ha, fun H3 k3 => ⟨_, rfl, ?_⟩⟩
  rw [e2]
  exact ifT rfl (q H3 (k02.trans k3))
end
end K21
set_option Elab.async false
set_option linter.all false
set_option maxRecDepth 100000
set_option maxHeartbeats 4000000
namespace K21
open PySem L2
noncomputable abbrev sWh : Stmt := top 19
noncomputable abbrev sCk : Stmt := top 29
noncomputable abbrev sSA : Stmt := inClass (top 25) 5
noncomputable abbrev sHAr : Stmt := inClass (top 31) 7
noncomputable abbrev sHRo : Stmt := inClass (top 31) 8
noncomputable abbrev sHIn : Stmt := inClass (top 31) 9
noncomputable abbrev sHHa : Stmt := inClass (top 31) 10
noncomputable abbrev sHAs : Stmt := inClass (top 31) 6
theorem hf_ck (nm : V) (nl sl : Addr) : (hfl nm nl sl).lookup ("seats" : Str) = some (.ref sl) := rfl
theorem pi_listG {X : Cx} {K : PySem.W.Frag} {tg l : Expr} {tl : TE} (hl : PE X l tl) (e : X.K = K := by rfl) : PI X tg l (iList K tl) := e ▸ pi_list hl
theorem fl_ar (a : V) (wl : Addr) (h : V) (k : Bool) : (flds a wl h k).lookup ("arrow" : Str) = none := rfl
theorem fl_ro (a : V) (wl : Addr) (h : V) (k : Bool) : (flds a wl h k).lookup ("row" : Str) = none := rfl
theorem fl_in (a : V) (wl : Addr) (h : V) (k : Bool) : (flds a wl h k).lookup ("inside" : Str) = none := rfl
theorem fl_as (a : V) (wl : Addr) (h : V) (k : Bool) : (flds a wl h k).lookup ("has_asked" : Str) = none := rfl
theorem fl_ak (a : V) (wl : Addr) (h : V) (k : Bool) : (flds a wl h k).lookup ("askers" : Str) = none := rfl
noncomputable def askV (r : Str × Bool) : List V := [.str r.1, .bl r.2]
noncomputable def asksS (s : SS) : List (Str × Bool) := (match s.hold with | some z => [(z, false)] | none => []) ++ ((s.row.filter fun r => decide (r.1 = ("asker" : Str))).map fun r => (r.2, true))
theorem sl_at {l : List (Addr × Addr)} {i : Nat} {x : Addr × Addr} (h : l[i]? = some x) : atI (l.map fun x => V.ref x.1) (i : Int) = some (.ref x.1) := by
  have ol : i < l.length := (List.getElem?_eq_some_iff.mp h).1
  obtain ⟨v, e1, e2⟩ := atI_in (xs := l.map fun x => V.ref x.1) (i := (i : Int)) (by omega) (by rw [List.length_map]; omega)
  rw [e1]
  rw [Int.toNat_natCast, List.getElem?_map, h] at e2
  exact e2.symm
section
variable {P : Program} {w : World} {K : PySem.W.Frag} {mg : Str → Option Value} {base : Heap} {C CS : Addr}
theorem scWh : FnScope ["thing"] ["thing"] (defScope sWh) := ⟨rfl, rfl, rfl, by decide +kernel, rfl, by decide +kernel, by decide +kernel⟩
theorem scCk : FnScope ["right", "many"] ["right", "many"] (defScope sCk) := ⟨rfl, rfl, rfl, by decide +kernel, rfl, by decide +kernel, by decide +kernel⟩
theorem scSA : FnScope ["self", "waiting"] ["self"] (defScope sSA) := ⟨rfl, rfl, rfl, by decide +kernel, rfl, by decide +kernel, by decide +kernel⟩
theorem scHAr : FnScope ["self", "right"] ["self", "right"] (defScope sHAr) := ⟨rfl, rfl, rfl, by decide +kernel, rfl, by decide +kernel, by decide +kernel⟩
theorem scHRo : FnScope ["self", "right"] ["self", "right"] (defScope sHRo) := ⟨rfl, rfl, rfl, by decide +kernel, rfl, by decide +kernel, by decide +kernel⟩
theorem scHIn : FnScope ["self", "right"] ["self", "right"] (defScope sHIn) := ⟨rfl, rfl, rfl, by decide +kernel, rfl, by decide +kernel, by decide +kernel⟩
theorem scHHa : FnScope ["self", "right"] ["self", "right"] (defScope sHHa) := ⟨rfl, rfl, rfl, by decide +kernel, rfl, by decide +kernel, by decide +kernel⟩
theorem scHAs : FnScope ["self"] ["self"] (defScope sHAs) := ⟨rfl, rfl, rfl, by decide +kernel, rfl, by decide +kernel, by decide +kernel⟩
noncomputable def spWh : Sp := fun vs H Q _ => ∃ i : Int, vs = [.int i] ∧ Q (.bl true) H
theorem okWh (G : FunG K mg "is_whole" sWh ["thing"]) (b_isinstance : Blt mg "isinstance") (b_int : Blt mg "int") (b_bool : Blt mg "bool") : Cal P w K mg base CX0 1 "is_whole" ["thing"] spWh := by
  refine G.ok scWh (fun vs H Q E h => by obtain ⟨i, rfl, _⟩ := h; rfl) (fun f cdv A outer s H vs Q E hr h => ?_)
  obtain ⟨i, rfl, q⟩ := h
  refine ⟨_, (pss_one (ps_ret (pe_and (pe_blt call_isinst b_isinstance bo_isinstance (pa_cons (pv 0) (pa_cons (pe_ty b_int bo_int) pa_nil))) (pe_one (pe_not (pe_blt call_isinst b_isinstance bo_isinstance (pa_cons (pv 0) (pa_cons (pe_ty b_bool bo_bool) pa_nil)))))))), ?_⟩
  have pt : PlainT K H (.int i) "int" := .int i
  exact ⟨_, rfl, _, _, _, true, rfl, pt.ty, pt.kit.2.1, _, rfl, ifT rfl ⟨_, rfl, _, _, _, false, rfl, pt.ty, pt.kit.2.2.1, _, rfl, q⟩⟩
noncomputable def spCk : Sp := fun vs H Q _ => ∃ i n : Int, vs = [.int i, .int n] ∧ 0 ≤ i ∧ i < n ∧ Q .non H
theorem okCk (G : FunG K mg "check_right" sCk ["right", "many"]) (CW : Cal P w K mg base CX0 1 "is_whole" ["thing"] spWh) : Cal P w K mg base CX0 2 "check_right" ["right", "many"] spCk := by
  refine G.ok scCk (fun vs H Q E h => by obtain ⟨i, n, rfl, _⟩ := h; rfl) (fun f cdv A outer s H vs Q E hr h => ?_)
  obtain ⟨i, n, rfl, h0, h1, q⟩ := h
  have hr1 : Room 1 _ := hr
  refine ⟨_, (pss_one (ps_if (PW.pt (pw_or (pt_not (pt_val (pe_cal CW hr1 (pa_cons (pv 0) pa_nil)))) (pw_or1 (pt_not (pt_chain op_le op_lt pe_int (pv 0) (pv 1)))))) (pss_one ps_never) pss_nil)), ?_⟩
  refine ⟨_, rfl, i, rfl, _, rfl, ifF rfl ?_⟩
  refine ⟨_, rfl, _, _, rfl, rfl, _, rfl, ifT (decide_eq_true h0) ⟨_, rfl, _, _, rfl, rfl, _, rfl, ifF ?_ q⟩⟩
  rw [decide_eq_true h1]; rfl
noncomputable def spHAr (C CS : Addr) : Sp := fun vs H Q _ => ∃ (B : Hp) (p : Addr) (i : Nat) (nm : Str) (nb : List Str) (xs : List (Addr × Addr)) (ss : List SS) (s : SS), vs = [.ref p, .int i] ∧ HouseAt B C CS H p nm nb xs ss ∧ ss[i]? = some s ∧ Q (optV s.ptr) H
theorem okHAr (T : HouseT K C) (TS : SeatT K CS) (G : MthG K C "arrow" "House.arrow" sHAr ["self", "right"]) (CK : Cal P w K mg base CX0 2 "check_right" ["right", "many"] spCk) (MA : MCal P w K mg base CX0 1 CS "arrow" ["self"] (spArrow CS)) (b_len : Blt mg "len") : MCal P w K mg base CX0 3 C "arrow" ["self", "right"] (spHAr C CS) := by
  refine G.ok scHAr (fun vs H Q E h => by obtain ⟨B, p, i, nm, nb, xs, ss, s, rfl, _⟩ := h; rfl) (fun f cdv A outer s0 H vs Q E hr h => ?_)
  obtain ⟨B, p, i, nm, nb, xs, ss, s, rfl, ⟨dx, nl, sl, _, hp, hnl, hsl, hxs, hse⟩, es, q⟩ := h
  have hr2 : Room 2 _ := hr
  have hr1 : Room 1 _ := hr.mono (by decide)
  have il : i < xs.length := by rw [hxs]; exact (List.getElem?_eq_some_iff.mp es).1
  have ex : xs[i]? = some xs[i] := List.getElem?_eq_getElem il
  generalize xs[i] = x at ex
  have S := hse i x s ex es
  obtain ⟨dx2, hob⟩ := S.ob
  refine ⟨_, (pss_cons (ps_expr (pe_cal CK hr2 (pa_cons (pv 1) (pa_cons (pe_blt call_len b_len bo_len (pa_cons (pe_fld (pv 0) rfl) pa_nil)) pa_nil))))
      (pss_one (ps_ret (pe_mth0 MA TS.cl hr1 (pe_ix ix_lstH (pe_fld (pv 0) rfl) (pv 1) (fun _ _ => rfl)))))), ?_⟩
  refine ⟨_, rfl, _, rfl, p, C, dx, _, _, rfl, hp, T.cl, T.nS, hf_ck _ _ _, _, _, rfl, .inl ⟨_, .of hsl, rfl⟩, _, _, rfl, by omega, by rw [List.length_map]; omega, ?_⟩
  exact ⟨_, rfl, p, C, dx, _, _, rfl, hp, T.cl, T.nS, hf_ck _ _ _, _, rfl, sl, _, i, _, rfl, rfl, hsl, sl_at ex, x.1, dx2, _, rfl, hob, fl_ar _ _ _ _, x.1, x.2, s, rfl, S, q⟩
noncomputable def spHRo (C CS : Addr) : Sp := fun vs H Q _ => ∃ (B : Hp) (p : Addr) (i : Nat) (nm : Str) (nb : List Str) (xs : List (Addr × Addr)) (ss : List SS) (s : SS), vs = [.ref p, .int i] ∧ HouseAt B C CS H p nm nb xs ss ∧ ss[i]? = some s ∧ ∀ (r : Addr) (H' : Hp), H r = none → Rows H' r (s.row.map rowV) → Keep [] H H' → Q (.ref r) H'
theorem okHRo (T : HouseT K C) (TS : SeatT K CS) (G : MthG K C "row" "House.row" sHRo ["self", "right"]) (CK : Cal P w K mg base CX0 2 "check_right" ["right", "many"] spCk) (MR : MCal P w K mg base CX0 1 CS "row" ["self"] (spRow CS)) (b_len : Blt mg "len") : MCal P w K mg base CX0 3 C "row" ["self", "right"] (spHRo C CS) := by
  refine G.ok scHRo (fun vs H Q E h => by obtain ⟨B, p, i, nm, nb, xs, ss, s, rfl, _⟩ := h; rfl) (fun f cdv A outer s0 H vs Q E hr h => ?_)
  obtain ⟨B, p, i, nm, nb, xs, ss, s, rfl, ⟨dx, nl, sl, _, hp, hnl, hsl, hxs, hse⟩, es, q⟩ := h
  have hr2 : Room 2 _ := hr
  have hr1 : Room 1 _ := hr.mono (by decide)
  have il : i < xs.length := by rw [hxs]; exact (List.getElem?_eq_some_iff.mp es).1
  have ex : xs[i]? = some xs[i] := List.getElem?_eq_getElem il
  generalize xs[i] = x at ex
  have S := hse i x s ex es
  obtain ⟨dx2, hob⟩ := S.ob
  refine ⟨_, (pss_cons (ps_expr (pe_cal CK hr2 (pa_cons (pv 1) (pa_cons (pe_blt call_len b_len bo_len (pa_cons (pe_fld (pv 0) rfl) pa_nil)) pa_nil))))
      (pss_one (ps_ret (pe_mth0 MR TS.cl hr1 (pe_ix ix_lstH (pe_fld (pv 0) rfl) (pv 1) (fun _ _ => rfl)))))), ?_⟩
  refine ⟨_, rfl, _, rfl, p, C, dx, _, _, rfl, hp, T.cl, T.nS, hf_ck _ _ _, _, _, rfl, .inl ⟨_, .of hsl, rfl⟩, _, _, rfl, by omega, by rw [List.length_map]; omega, ?_⟩
  exact ⟨_, rfl, p, C, dx, _, _, rfl, hp, T.cl, T.nS, hf_ck _ _ _, _, rfl, sl, _, i, _, rfl, rfl, hsl, sl_at ex, x.1, dx2, _, rfl, hob, fl_ro _ _ _ _, x.1, x.2, s, rfl, S, q⟩
noncomputable def spHIn (C CS : Addr) : Sp := fun vs H Q _ => ∃ (B : Hp) (p : Addr) (i : Nat) (nm : Str) (nb : List Str) (xs : List (Addr × Addr)) (ss : List SS) (s : SS), vs = [.ref p, .int i] ∧ HouseAt B C CS H p nm nb xs ss ∧ ss[i]? = some s ∧ Q (optV s.hold) H
theorem okHIn (T : HouseT K C) (TS : SeatT K CS) (G : MthG K C "inside" "House.inside" sHIn ["self", "right"]) (CK : Cal P w K mg base CX0 2 "check_right" ["right", "many"] spCk) (MI : MCal P w K mg base CX0 1 CS "inside" ["self"] (spInside CS)) (b_len : Blt mg "len") : MCal P w K mg base CX0 3 C "inside" ["self", "right"] (spHIn C CS) := by
  refine G.ok scHIn (fun vs H Q E h => by obtain ⟨B, p, i, nm, nb, xs, ss, s, rfl, _⟩ := h; rfl) (fun f cdv A outer s0 H vs Q E hr h => ?_)
  obtain ⟨B, p, i, nm, nb, xs, ss, s, rfl, ⟨dx, nl, sl, _, hp, hnl, hsl, hxs, hse⟩, es, q⟩ := h
  have hr2 : Room 2 _ := hr
  have hr1 : Room 1 _ := hr.mono (by decide)
  have il : i < xs.length := by rw [hxs]; exact (List.getElem?_eq_some_iff.mp es).1
  have ex : xs[i]? = some xs[i] := List.getElem?_eq_getElem il
  generalize xs[i] = x at ex
  have S := hse i x s ex es
  obtain ⟨dx2, hob⟩ := S.ob
  refine ⟨_, (pss_cons (ps_expr (pe_cal CK hr2 (pa_cons (pv 1) (pa_cons (pe_blt call_len b_len bo_len (pa_cons (pe_fld (pv 0) rfl) pa_nil)) pa_nil))))
      (pss_one (ps_ret (pe_mth0 MI TS.cl hr1 (pe_ix ix_lstH (pe_fld (pv 0) rfl) (pv 1) (fun _ _ => rfl)))))), ?_⟩
  refine ⟨_, rfl, _, rfl, p, C, dx, _, _, rfl, hp, T.cl, T.nS, hf_ck _ _ _, _, _, rfl, .inl ⟨_, .of hsl, rfl⟩, _, _, rfl, by omega, by rw [List.length_map]; omega, ?_⟩
  exact ⟨_, rfl, p, C, dx, _, _, rfl, hp, T.cl, T.nS, hf_ck _ _ _, _, rfl, sl, _, i, _, rfl, rfl, hsl, sl_at ex, x.1, dx2, _, rfl, hob, fl_in _ _ _ _, x.1, x.2, s, rfl, S, q⟩
noncomputable def spHHa (C CS : Addr) : Sp := fun vs H Q _ => ∃ (B : Hp) (p : Addr) (i : Nat) (nm : Str) (nb : List Str) (xs : List (Addr × Addr)) (ss : List SS) (s : SS), vs = [.ref p, .int i] ∧ HouseAt B C CS H p nm nb xs ss ∧ ss[i]? = some s ∧ Q (.bl s.asked) H
theorem okHHa (T : HouseT K C) (TS : SeatT K CS) (G : MthG K C "has_asked" "House.has_asked" sHHa ["self", "right"]) (CK : Cal P w K mg base CX0 2 "check_right" ["right", "many"] spCk) (MHa : MCal P w K mg base CX0 1 CS "has_asked" ["self"] (spHas CS)) (b_len : Blt mg "len") : MCal P w K mg base CX0 3 C "has_asked" ["self", "right"] (spHHa C CS) := by
  refine G.ok scHHa (fun vs H Q E h => by obtain ⟨B, p, i, nm, nb, xs, ss, s, rfl, _⟩ := h; rfl) (fun f cdv A outer s0 H vs Q E hr h => ?_)
  obtain ⟨B, p, i, nm, nb, xs, ss, s, rfl, ⟨dx, nl, sl, _, hp, hnl, hsl, hxs, hse⟩, es, q⟩ := h
  have hr2 : Room 2 _ := hr
  have hr1 : Room 1 _ := hr.mono (by decide)
  have il : i < xs.length := by rw [hxs]; exact (List.getElem?_eq_some_iff.mp es).1
  have ex : xs[i]? = some xs[i] := List.getElem?_eq_getElem il
  generalize xs[i] = x at ex
  have S := hse i x s ex es
  obtain ⟨dx2, hob⟩ := S.ob
  refine ⟨_, (pss_cons (ps_expr (pe_cal CK hr2 (pa_cons (pv 1) (pa_cons (pe_blt call_len b_len bo_len (pa_cons (pe_fld (pv 0) rfl) pa_nil)) pa_nil))))
      (pss_one (ps_ret (pe_mth0 MHa TS.cl hr1 (pe_ix ix_lstH (pe_fld (pv 0) rfl) (pv 1) (fun _ _ => rfl)))))), ?_⟩
  refine ⟨_, rfl, _, rfl, p, C, dx, _, _, rfl, hp, T.cl, T.nS, hf_ck _ _ _, _, _, rfl, .inl ⟨_, .of hsl, rfl⟩, _, _, rfl, by omega, by rw [List.length_map]; omega, ?_⟩
  exact ⟨_, rfl, p, C, dx, _, _, rfl, hp, T.cl, T.nS, hf_ck _ _ _, _, rfl, sl, _, i, _, rfl, rfl, hsl, sl_at ex, x.1, dx2, _, rfl, hob, fl_as _ _ _ _, x.1, x.2, s, rfl, S, q⟩
noncomputable def spSA (CS : Addr) : Sp := fun vs H Q _ => ∃ (p wl : Addr) (s : SS), vs = [.ref p] ∧ SeatAt CS H p wl s ∧ ∀ (r : Addr) (H' : Hp), Rows H' r ((asksS s).map askV) → Keep [] H H' → Q (.ref r) H'
theorem okSA (TS : SeatT K CS) (G : MthG K CS "askers" "Seat.askers" sSA ["self"]) : MCal P w K mg base CX0 1 CS "askers" ["self"] (spSA CS) := by
  refine G.ok scSA (fun vs H Q E h => by obtain ⟨p, wl, s, rfl, _⟩ := h; rfl) (fun f cdv A outer s0 H vs Q E hr h => ?_)
  obtain ⟨p, wl, s, rfl, S, q⟩ := h
  obtain ⟨⟨dx, hob⟩, hrw, hlen⟩ := id S
  obtain ⟨qs, hwl, hqp⟩ := id hrw
  refine ⟨_, (pss_cons (ps_setLC2 (i := 1) scSA.nd rfl (Or.inl rfl) (N := ["self", "waiting"]) (sc := defScope sSA) (ix := []) (by decide +kernel) (pi_list (pe_fld (pv 0) rfl)) (fun _ _ _ _ => (pts_one (pt_cmpR op_eq (pv 0) pe_str (nomark _)))) (fun _ _ _ _ => (pe_tup (pa_cons (pv 1) (pa_cons pe_bl pa_nil)))))
      (pss_one (ps_ret (pe_ifExp (pt_cmpR op_isN (pe_fld (pv 0) rfl) pe_non (nomark _)) (pv 1) (pe_op op_cat (pe_lst (pa_cons (pe_tup (pa_cons (pe_fld (pv 0) rfl) (pa_cons pe_bl pa_nil))) pa_nil)) (pv 1)))))), ?_⟩
  refine ⟨_, rfl, p, CS, dx, _, _, rfl, hob, TS.cl, TS.nW, fl_w _ _ _ _, wl, rfl, ⟨_, .of hwl⟩, fun c1 hc1 => ?_⟩
  refine lc_rows (ds := s.row) rowV (fun r => [.str r.2, .bl true]) (fun r => decide (r.1 = ("asker" : Str))) (fun r _ => [some (.str r.1), some (.str r.2)]) [] (by omega) hc1 hrw ⟨[none, none], rfl, rfl⟩ (fun _ _ => rfl) ?_ ?_ ?_ ?_
  · intro r q vs H R _ hv hq h
    match vs, hv with
    | [v1, v2], _ => exact ⟨q, _, rfl, .of hq, rfl, _, _, rfl, _, _, rfl, rfl, h⟩
  · intro r q H R _ _ _ h
    refine ⟨_, rfl, rfl, _, rfl, ?_⟩
    rw [show decide (V.str r.1 = V.str "asker") = decide (r.1 = ("asker" : Str)) by simp]
    exact h H (Keep.refl _)
  · intro r q H R _ _ h
    exact ⟨_, rfl, by show 2 ≤ sizeLine; decide, fun t ht => h t _ (Keep.new ht) upd_same⟩
  intro H2 hR k2
  obtain ⟨ts, hts, htp⟩ := hR
  have e1 : ((s.row.filter fun r => decide (r.1 = ("asker" : Str))).map fun r => [V.str r.2, .bl true]) = ((s.row.filter fun r => decide (r.1 = ("asker" : Str))).map fun r => (r.2, true)).map askV := by rw [List.map_map]; rfl
  rw [e1] at htp
  have hob2 := k2 _ _ (by simp) hob
  refine ⟨_, rfl, p, CS, dx, _, _, rfl, hob2, TS.cl, TS.nH, fl_h _ _ _ _, rfl, _, rfl, ?_⟩
  cases eh : s.hold with
  | none =>
    refine ifT rfl ⟨_, rfl, q c1 H2 ⟨ts, hts, ?_⟩ k2⟩
    unfold asksS
    rw [eh]
    exact htp
  | some z =>
    refine ifF rfl ?_
    rw [eh] at hob2
    refine ⟨_, rfl, p, CS, dx, _, _, rfl, hob2, TS.cl, TS.nH, fl_h _ _ _ _, by show 2 ≤ sizeLine; decide, fun t ht => ⟨by show 1 ≤ sizeLine; decide, fun l1 hl1 => ?_⟩⟩
    have k3 : Keep [] H2 (upd H2 t (.tup [.str z, .bl false])) := Keep.new ht
    have e3 : upd H2 t (.tup [.str z, .bl false]) t = some (.tup [.str z, .bl false]) := upd_same
    have hl1' : upd H2 t (.tup [.str z, .bl false]) l1 = none := hl1
    have k4 : Keep [] (upd H2 t (.tup [.str z, .bl false])) (upd (upd H2 t (.tup [.str z, .bl false])) l1 (.lst [.ref t])) := Keep.new hl1'
    have e4 : upd (upd H2 t (.tup [.str z, .bl false])) l1 (.lst [.ref t]) l1 = some (.lst [.ref t]) := upd_same
    have e34 := k4 _ _ (by simp) e3
    have k24 := k3.trans k4
    have lt := paired_len htp
    rw [List.length_map, List.length_map] at lt
    have lf := List.length_filter_le (fun r : Str × Str => decide (r.1 = ("asker" : Str))) s.row
    refine ⟨_, rfl, l1, c1, _, _, rfl, rfl, e4, k24 _ _ (by simp) hts, by rw [List.length_map, sizeLine_eq]; show 1 + _ ≤ _; omega, fun l2 hl2 => ?_⟩
    have k5 : Keep [] (upd (upd H2 t (.tup [.str z, .bl false])) l1 (.lst [.ref t])) (upd (upd (upd H2 t (.tup [.str z, .bl false])) l1 (.lst [.ref t])) l2 (.lst ((t :: ts).map V.ref))) := Keep.new hl2
    refine q l2 _ ⟨t :: ts, upd_same, ?_⟩ (k2.trans (k24.trans k5))
    unfold asksS
    rw [eh]
    exact .cons (k5 _ _ (by simp) e34) (L2.Paired.mapP htp fun u r e => (k24.trans k5) _ _ (by simp) e)
noncomputable def spHAs0 (C CS : Addr) : Sp := fun vs H Q _ => ∃ (B : Hp) (p : Addr) (nm : Str) (nb : List Str) (xs : List (Addr × Addr)) (ars : List (Option Str)), vs = [.ref p] ∧ HouseAt B C CS H p nm nb xs (freshS ars) ∧ ars.length ≤ 100 ∧ ∀ (l : Addr) (H' : Hp), H l = none → H' l = some (.lst []) → Keep [] H H' → Q (.ref l) H'
theorem okHAs0 (T : HouseT K C) (TS : SeatT K CS) (G : MthG K C "askers" "House.askers" sHAs ["self"]) (MAs : MCal P w K mg base CX0 1 CS "askers" ["self"] (spSA CS)) (b_sorted : Blt mg "sorted") (b_enumerate : Blt mg "enumerate") : MCal P w K mg base CX0 2 C "askers" ["self"] (spHAs0 C CS) := by
  refine G.ok scHAs (fun vs H Q E h => by obtain ⟨B, p, nm, nb, xs, ars, rfl, _⟩ := h; rfl) (fun f cdv A outer s0 H vs Q E hr h => ?_)
  obtain ⟨B, p, nm, nb, xs, ars, rfl, ⟨dx, nl, sl, _, hp, hnl, hsl, hxs, hse⟩, la, q⟩ := h
  have hr1 : Room 1 _ := hr
  have lx : xs.length = ars.length := by rw [hxs]; unfold freshS; rw [List.length_map]
  refine ⟨_, (pss_one (ps_ret (pe_blt call_sortedS b_sorted bo_sorted (pa_cons (pe_lc22 (N := ["self"]) (sc := defScope sHAs) (ix := []) (by decide +kernel) (pi_enum0 rfl b_enumerate.no (pe_fld (pv 0) rfl)) (fun _ _ _ _ => pi_listG (K := K) (pe_mth0 MAs TS.cl hr1 (pv 1))) (fun _ _ _ _ => pts_nil) (fun _ _ _ _ => pts_nil) (fun _ _ _ _ => (pe_tup (pa_cons (pv 2) (pa_cons (pv 0) (pa_cons (pv 3) pa_nil)))))) pa_nil)))), ?_⟩
  refine ⟨_, rfl, p, C, dx, _, _, rfl, hp, T.cl, T.nS, hf_ck _ _ _, sl, rfl, ⟨_, .of hsl⟩, fun acc hacc => ?_⟩
  have sa : sl ≠ acc := ne_of_none hsl hacc
  refine lc2_enum (K := K) (a := sl) (k := 0) (its := xs.map fun x => V.ref x.1) (fun i ys τ H1 => ∃ v0 v1 v2 v3 : Option V, τ = [v0, v1, v2, v3] ∧ ys = [] ∧ Keep [acc] H H1 ∧ H1 acc = some (.lst [])) ⟨_, _, _, _, rfl, rfl, Keep.at (by simp), upd_same⟩ (fun i ys τ H1 _ ⟨_, _, _, _, _, _, k, _⟩ => .of (k _ _ (by simp [sa]) hsl)) ?_ ?_
  · rintro i ys τ H1 x TT hx ⟨v0, v1, v2, v3, rfl, rfl, k1, h1⟩ hTT
    rw [List.getElem?_map] at hx
    cases ex : xs[i]? with
    | none => rw [ex] at hx; cases hx
    | some y =>
    rw [ex] at hx
    have ey : V.ref y.1 = x := Option.some.inj hx
    subst ey
    have il : i < ars.length := by rw [← lx]; exact (List.getElem?_eq_some_iff.mp ex).1
    have es : (freshS ars)[i]? = some ⟨ars[i], [], none, false⟩ := by unfold freshS; rw [List.getElem?_map, List.getElem?_eq_getElem il]; rfl
    have S := hse i y _ ex es
    have k2 : Keep [] H1 (upd H1 TT (.tup [.int (0 + (i : Int)), .ref y.1])) := Keep.new hTT
    have e2 : upd H1 TT (.tup [.int (0 + (i : Int)), .ref y.1]) TT = some (.tup [.int (0 + (i : Int)), .ref y.1]) := upd_same
    generalize upd H1 TT (.tup [.int (0 + (i : Int)), .ref y.1]) = H2 at k2 e2
    have S2 := (S.keep (k1.drop hacc)).keep k2
    obtain ⟨dy, hob⟩ := S2.ob
    refine ⟨TT, _, rfl, .of e2, rfl, _, _, rfl, _, _, rfl, rfl, ?_⟩
    refine ⟨_, rfl, y.1, dy, _, rfl, hob, fl_ak _ _ _ _, y.1, y.2, _, rfl, S2, fun r H3 hR k3 => ⟨r, rfl, ?_⟩⟩
    obtain ⟨rs, hrs, hrp⟩ := hR
    cases hrp
    refine ⟨⟨_, .of hrs⟩, ?_⟩
    have h3 := (k2.trans k3) _ _ (by simp) h1
    exact inw_list (K := K) (its := []) (fun _ ys τ H4 => ys = [] ∧ τ = [some (.int (0 + (i : Int))), some (.ref y.1), v2, v3] ∧ H4 = H3) ⟨rfl, rfl, rfl⟩ (fun _ ys τ H4 ⟨e1, _, e3⟩ => by subst e1 e3; exact ⟨h3, by rw [sizeLine_eq]; simp, .of hrs⟩) (fun _ _ _ _ x hx => by simp at hx) (fun ys τ H4 ⟨e1, e2', e3⟩ => by subst e1 e2' e3; exact ⟨_, _, _, _, rfl, rfl, k1.trans ((k2.trans k3).mono (by simp)), h3⟩)
  · rintro ys τ H1 ⟨v0, v1, v2, v3, rfl, rfl, k1, h1⟩
    have k01 := k1.drop hacc
    refine ⟨acc, [], rfl, h1, by decide, fun l ys hl py _ => ?_⟩
    have ey : ys = [] := List.perm_nil.mp py
    subst ey
    exact q l _ (k01.none (by simp) hl) upd_same (k01.trans (Keep.new hl))
end
end K21
set_option Elab.async false
set_option linter.all false
set_option maxRecDepth 100000
set_option maxHeartbeats 4000000
namespace K21
open PySem L2
noncomputable abbrev sKinds : Stmt := top 39
theorem bo_ValueError : bootBuiltins "ValueError" = some (.type "ValueError") := by decide +kernel
structure Kn (K : PySem.W.Frag) (mg : Str → Option Value) (cs : Nat → Addr) : Prop where
  g0 : Glo mg "NoTree" (.ref (cs 0))
  g1 : Glo mg "NoHouse" (.ref (cs 1))
  g2 : Glo mg "NoSeat" (.ref (cs 2))
  g3 : Glo mg "NoAsker" (.ref (cs 3))
  g4 : Glo mg "NoLetter" (.ref (cs 4))
  g5 : Glo mg "NoRight" (.ref (cs 5))
  g6 : Glo mg "NoRow" (.ref (cs 6))
  g7 : Glo mg "NoTie" (.ref (cs 7))
  g8 : Glo mg "Down" (.ref (cs 8))
  g9 : Glo mg "NoMend" (.ref (cs 9))
  g10 : Glo mg "NoText" (.ref (cs 10))
  g11 : Glo mg "NoLine" (.ref (cs 11))
  kd : ∀ i j, i < 12 → j < 12 → PySem.W.kitOne K (.ref (cs i)) (.ref (cs j)) = some (decide (i = j))
  kv : ∀ i, i < 12 → PySem.W.kitOne K (.ref (cs i)) (.type "ValueError") = some true
  ke : ∀ i, i < 12 → ExcK K (cs i)
noncomputable def words : List Str := ["tree", "house", "seat", "asker", "letter", "right", "row", "tie", "down", "mend", "text", "line"]
noncomputable def wordOf (i : Nat) : Str := words.getD i ""
theorem word_at {i : Nat} (hi : i < 12) : (words.map V.str)[i]? = some (.str (wordOf i)) := by
  have e : words.length = 12 := rfl
  rw [List.getElem?_map, List.getElem?_eq_getElem (by rw [e]; exact hi)]
  unfold wordOf
  rw [List.getD_eq_getElem?_getD, List.getElem?_eq_getElem (by rw [e]; exact hi)]; rfl
noncomputable def flags (d : Nat → Bool) : List V := [.bl (d 0), .bl (d 1), .bl (d 2), .bl (d 3), .bl (d 4), .bl (d 5), .bl (d 6), .bl (d 7), .bl (d 8), .bl (d 9), .bl (d 10), .bl (d 11)]
theorem flag_at {d : Nat → Bool} {j : Nat} (hj : j < 12) : (flags d)[j]? = some (.bl (d j)) := by
  have e : flags d = (List.range 12).map fun j => V.bl (d j) := rfl
  rw [e, List.getElem?_map, List.getElem?_range hj]; rfl
theorem scKinds : FnScope ["_law_e", "_law_kinds_here", "_law_words", "_law_found"] ["_law_e"] (defScope sKinds) := ⟨rfl, rfl, rfl, by decide +kernel, rfl, by decide +kernel, by decide +kernel⟩
noncomputable def spKindsH (cs : Nat → Addr) : SpH := fun hx vs H Q => ∃ (i : Nat), vs = [.ref hx] ∧ i < 12 ∧ H hx = some (excO (cs i) hx) ∧ ∀ H', Keep [] H H' → Q (.str (wordOf i)) H'
theorem okKindsH {cs : Nat → Addr} (kn : Kn K mg cs) (G : FunG K mg "_law_kinds" sKinds ["_law_e"]) (b_isinstance : Blt mg "isinstance") (b_len : Blt mg "len") (b_range : Blt mg "range") (b_ValueError : Blt mg "ValueError") :
    CalH P w K mg base 1 "_law_kinds" ["_law_e"] (spKindsH cs) := by
  refine G.okH scKinds (fun hx vs H Q h => by obtain ⟨i, rfl, _⟩ := h; rfl) (fun f hx cdv A outer s0 H vs Q hh h => ?_)
  obtain ⟨i, rfl, hi, ha, q⟩ := h
  obtain ⟨a, ea⟩ : ∃ a, a = hx := ⟨_, rfl⟩
  subst ea
  refine ⟨_, (pss_cons (ps_set (i := 1) scKinds.nd rfl (Or.inr rfl) (pe_lst (pa_cons (pe_blt (call_isE (D := cs 0)) b_isinstance bo_isinstance (pa_cons (pv 0) (pa_cons (pe_glo kn.g0) pa_nil))) (pa_cons (pe_blt (call_isE (D := cs 1)) b_isinstance bo_isinstance (pa_cons (pv 0) (pa_cons (pe_glo kn.g1) pa_nil))) (pa_cons (pe_blt (call_isE (D := cs 2)) b_isinstance bo_isinstance (pa_cons (pv 0) (pa_cons (pe_glo kn.g2) pa_nil))) (pa_cons (pe_blt (call_isE (D := cs 3)) b_isinstance bo_isinstance (pa_cons (pv 0) (pa_cons (pe_glo kn.g3) pa_nil))) pa_nil))))))
      (pss_cons (ps_set (i := 1) scKinds.nd rfl (Or.inr rfl) (pe_op op_cat (pv 1) (pe_lst (pa_cons (pe_blt (call_isE (D := cs 4)) b_isinstance bo_isinstance (pa_cons (pv 0) (pa_cons (pe_glo kn.g4) pa_nil))) (pa_cons (pe_blt (call_isE (D := cs 5)) b_isinstance bo_isinstance (pa_cons (pv 0) (pa_cons (pe_glo kn.g5) pa_nil))) (pa_cons (pe_blt (call_isE (D := cs 6)) b_isinstance bo_isinstance (pa_cons (pv 0) (pa_cons (pe_glo kn.g6) pa_nil))) (pa_cons (pe_blt (call_isE (D := cs 7)) b_isinstance bo_isinstance (pa_cons (pv 0) (pa_cons (pe_glo kn.g7) pa_nil))) pa_nil)))))))
      (pss_cons (ps_set (i := 1) scKinds.nd rfl (Or.inr rfl) (pe_op op_cat (pv 1) (pe_lst (pa_cons (pe_blt (call_isE (D := cs 8)) b_isinstance bo_isinstance (pa_cons (pv 0) (pa_cons (pe_glo kn.g8) pa_nil))) (pa_cons (pe_blt (call_isE (D := cs 9)) b_isinstance bo_isinstance (pa_cons (pv 0) (pa_cons (pe_glo kn.g9) pa_nil))) (pa_cons (pe_blt (call_isE (D := cs 10)) b_isinstance bo_isinstance (pa_cons (pv 0) (pa_cons (pe_glo kn.g10) pa_nil))) (pa_cons (pe_blt (call_isE (D := cs 11)) b_isinstance bo_isinstance (pa_cons (pv 0) (pa_cons (pe_glo kn.g11) pa_nil))) pa_nil)))))))
      (@pss_cons _ _ _ _ _ (@ps_setL _ _ _ 2 _ _ _ _ scKinds.nd rfl (Or.inr rfl) (Or.inl rfl) (@pa_all _ _ (words.map V.str) (.cons .str (.cons .str (.cons .str (.cons .str (.cons .str (.cons .str (.cons .str (.cons .str (.cons .str (.cons .str (.cons .str (.cons .str .nil))))))))))))))
      (pss_cons (ps_setLC1H (ax := a) hh (i := 3) scKinds.nd rfl (Or.inl rfl) (N := ["_law_e", "_law_kinds_here", "_law_words", "_law_found"]) (sc := defScope sKinds) (ix := [2, 1]) (by decide +kernel) (pi_range1H rfl b_range.no (pa_cons pe_int pa_nil)) (fun _ _ _ _ => (pts_one (pt_val (pe_ix ix_lstH (pv 2) (pv 0) (fun _ _ => rfl))))) (fun _ _ _ _ => (pe_ix ix_lstH (pv 1) (pv 0) (fun _ _ => rfl))))
      (pss_cons (ps_if (PW.pt (pw_or (pt_cmpR op_ne (pe_blt call_len b_len bo_len (pa_cons (pv 3) pa_nil)) pe_int (nomark _)) (pw_or1 (pt_not (pt_val (pe_blt (call_isET (T := "ValueError")) b_isinstance bo_isinstance (pa_cons (pv 0) (pa_cons (pe_ty b_ValueError bo_ValueError) pa_nil)))))))) (pss_one (ps_ret pe_str)) pss_nil)
      (pss_one (ps_ret (pe_ix ix_lstH (pv 3) pe_int (fun _ _ => rfl)))))))))), ?_⟩
  obtain ⟨d, hd⟩ : ∃ d : Nat → Bool, ∀ j, d j = decide (i = j) := ⟨fun j => decide (i = j), fun _ => rfl⟩
  have kd : ∀ j, j < 12 → PySem.W.kitOne K (.ref (cs i)) (.ref (cs j)) = some (d j) := fun j hj => (kn.kd i j hi hj).trans (congrArg some (hd j).symm)
  have ke := kn.ke i hi
  refine ⟨_, rfl, a, cs i, _, rfl, ha, ke, kd 0 (by decide), ?_⟩
  refine ⟨_, rfl, a, cs i, _, rfl, ha, ke, kd 1 (by decide), ?_⟩
  refine ⟨_, rfl, a, cs i, _, rfl, ha, ke, kd 2 (by decide), ?_⟩
  refine ⟨_, rfl, a, cs i, _, rfl, ha, ke, kd 3 (by decide), ?_⟩
  refine ⟨by show 4 ≤ sizeLine; decide, fun p1 f1 => ?_⟩
  have k1 := Keep.new (S := []) (o := .lst [.bl (d 0), .bl (d 1), .bl (d 2), .bl (d 3)]) f1
  have e1 : upd H p1 (.lst [.bl (d 0), .bl (d 1), .bl (d 2), .bl (d 3)]) p1 = some (.lst [.bl (d 0), .bl (d 1), .bl (d 2), .bl (d 3)]) := upd_same
  generalize upd H p1 (.lst [.bl (d 0), .bl (d 1), .bl (d 2), .bl (d 3)]) = H1 at k1 e1 ⊢
  have ha1 := k1 _ _ (by simp) ha
  refine ⟨_, rfl, ?_⟩
  refine ⟨_, rfl, a, cs i, _, rfl, ha1, ke, kd 4 (by decide), ?_⟩
  refine ⟨_, rfl, a, cs i, _, rfl, ha1, ke, kd 5 (by decide), ?_⟩
  refine ⟨_, rfl, a, cs i, _, rfl, ha1, ke, kd 6 (by decide), ?_⟩
  refine ⟨_, rfl, a, cs i, _, rfl, ha1, ke, kd 7 (by decide), ?_⟩
  refine ⟨by show 4 ≤ sizeLine; decide, fun p2 f2 => ?_⟩
  have k2 := Keep.new (S := []) (o := .lst [.bl (d 4), .bl (d 5), .bl (d 6), .bl (d 7)]) f2
  refine ⟨p1, p2, _, _, rfl, rfl, k2 _ _ (by simp) e1, upd_same, by show 8 ≤ sizeLine; decide, fun p3 f3 => ?_⟩
  have k3 := k2.trans (Keep.new (S := []) (o := .lst ([.bl (d 0), .bl (d 1), .bl (d 2), .bl (d 3)] ++ [.bl (d 4), .bl (d 5), .bl (d 6), .bl (d 7)])) f3)
  have e3 := upd_same (H := upd H1 p2 (.lst [.bl (d 4), .bl (d 5), .bl (d 6), .bl (d 7)])) (a := p3) (o := .lst ([.bl (d 0), .bl (d 1), .bl (d 2), .bl (d 3)] ++ [.bl (d 4), .bl (d 5), .bl (d 6), .bl (d 7)]))
  generalize upd (upd H1 p2 _) p3 _ = H3 at k3 e3 ⊢
  have ha3 := k3 _ _ (by simp) ha1
  refine ⟨_, rfl, ?_⟩
  refine ⟨_, rfl, a, cs i, _, rfl, ha3, ke, kd 8 (by decide), ?_⟩
  refine ⟨_, rfl, a, cs i, _, rfl, ha3, ke, kd 9 (by decide), ?_⟩
  refine ⟨_, rfl, a, cs i, _, rfl, ha3, ke, kd 10 (by decide), ?_⟩
  refine ⟨_, rfl, a, cs i, _, rfl, ha3, ke, kd 11 (by decide), ?_⟩
  refine ⟨by show 4 ≤ sizeLine; decide, fun p4 f4 => ?_⟩
  have k4 := Keep.new (S := []) (o := .lst [.bl (d 8), .bl (d 9), .bl (d 10), .bl (d 11)]) f4
  refine ⟨p3, p4, _, _, rfl, rfl, k4 _ _ (by simp) e3, upd_same, by show 12 ≤ sizeLine; decide, fun p5 f5 => ?_⟩
  have k5 : Keep [] H3 (upd (upd H3 p4 (.lst [.bl (d 8), .bl (d 9), .bl (d 10), .bl (d 11)])) p5 (.lst (flags d))) := k4.trans (Keep.new f5)
  have e5 := upd_same (H := upd H3 p4 (.lst [.bl (d 8), .bl (d 9), .bl (d 10), .bl (d 11)])) (a := p5) (o := .lst (flags d))
  change tSeq _ _ _ _ (upd (upd H3 p4 (.lst [.bl (d 8), .bl (d 9), .bl (d 10), .bl (d 11)])) p5 (.lst (flags d)))
  generalize upd (upd H3 p4 (.lst [.bl (d 8), .bl (d 9), .bl (d 10), .bl (d 11)])) p5 (.lst (flags d)) = H5 at k5 e5 ⊢
  have ha5 := k5 _ _ (by simp) ha3
  refine ⟨by show 12 ≤ sizeLine; decide, fun p6 f6 => ?_⟩
  have k6 : Keep [] H5 (upd H5 p6 (.lst (words.map V.str))) := Keep.new f6
  have e6 := upd_same (H := H5) (a := p6) (o := .lst (words.map V.str))
  have e5' := k6 _ _ (by simp) e5
  change tSeq _ _ _ _ (upd H5 p6 (.lst (words.map V.str)))
  generalize upd H5 p6 (.lst (words.map V.str)) = H6 at k6 e6 e5' ⊢
  have ha6 := k6 _ _ (by simp) ha5
  have kA : Keep [] H H6 := ((k1.trans k3).trans k5).trans k6
  refine ⟨12, rfl, by decide, by decide, fun acc hacc => ?_⟩
  refine lc_rangeH (n := 12) (by decide) (fun j ys τ H7 => ∃ v : Option V, τ = [v, some (.ref p6), some (.ref p5)] ∧ ys = (if i < j then [V.str (wordOf i)] else []) ∧ j ≤ 12 ∧ Keep [acc] H6 H7 ∧ H7 acc = some (.lst ys)) ?_ ?_ ?_ ?_ ?_
  · exact ⟨_, rfl, rfl, Nat.zero_le _, Keep.at (by simp), upd_same⟩
  · rintro j ys τ H7 ⟨v, rfl, rfl, hj, kp, h7⟩
    refine ⟨h7, ?_⟩
    split
    · show 1 ≤ j; omega
    · exact Nat.zero_le _
  · rintro j ys τ H7 hj ⟨v, rfl, rfl, _, kp, h7⟩
    have n5 : p5 ∉ [acc] := by simp only [List.mem_singleton]; exact ne_of_none e5' hacc
    have n6 : p6 ∉ [acc] := by simp only [List.mem_singleton]; exact ne_of_none e6 hacc
    have ej : ((0 : Int) + (j : Int)) = (j : Int) := by omega
    rw [ej]
    refine ⟨_, rfl, _, rfl, p5, _, _, _, rfl, rfl, kp _ _ n5 e5', atI_nat (flag_at hj), _, rfl, ?_⟩
    by_cases hij : i = j
    · refine ifT ((hd j).trans (decide_eq_true hij)) ?_
      subst hij
      refine ⟨_, rfl, _, rfl, p6, _, _, _, rfl, rfl, kp _ _ n6 e6, atI_nat (word_at hj), h7, _, rfl, ?_, hj, kp.trans (Keep.at (by simp)), upd_same⟩
      rw [if_neg (Nat.lt_irrefl i), if_pos (Nat.lt_succ_self i)]; rfl
    · refine ifF ((hd j).trans (decide_eq_false hij)) ⟨_, rfl, ?_, hj, kp, h7⟩
      by_cases hl : i < j
      · rw [if_pos hl, if_pos (Nat.lt_succ_of_lt hl)]
      · rw [if_neg hl, if_neg (by omega)]
  · rintro ys τ H7 ⟨v, rfl, rfl, _, kp, h7⟩
    exact ⟨_, (kp.drop hacc) _ _ (by simp) ha6⟩
  · rintro ys τ H7 ⟨v, rfl, rfl, _, kp, h7⟩
    rw [if_pos hi] at h7
    have kB : Keep [] H6 H7 := kp.drop hacc
    have ha7 := kB _ _ (by simp) ha6
    refine ⟨_, rfl, _, _, rfl, .inl ⟨_, .of h7, rfl⟩, rfl, _, rfl, ?_⟩
    refine ifF rfl ?_
    refine ⟨_, rfl, a, cs i, _, rfl, ha7, ke, kn.kv i hi, _, rfl, ?_⟩
    refine ifF rfl ?_
    refine ⟨_, rfl, acc, _, 0, _, rfl, rfl, h7, rfl, ?_⟩
    exact q _ (kA.trans kB)
noncomputable abbrev sOdd : Stmt := top 38
theorem scOdd : FnScope ["_law_source", "_law_name", "_law_way", "_law_some", "_law_signs", "_law_at"] ["_law_source", "_law_name"] (defScope sOdd) := ⟨rfl, rfl, rfl, by decide +kernel, rfl, by decide +kernel, by decide +kernel⟩
noncomputable def signs : Str := " !\"#$&'()*+,-./0123456789:;<=>?@ABCDEFGHIJKLMNOPQRSTUVWXYZ[\\]^_`{|}~\n"
theorem signs_no : ∀ c ∈ signs.cps.toList, letterB c = false := by decide +kernel
theorem name_no {z : Str} {c : Nat} (h : c ∈ z.cps.toList) (hb : letterB c = false) : nameS z = false := by
  unfold nameS
  have e : z.cps.toList.all letterB = false := by
    rw [List.all_eq_false]
    exact ⟨c, h, by rw [hb]; simp⟩
  rw [e, Bool.and_false]
theorem name_long {z : Str} (h : 9 ≤ z.length) : nameS z = false := by
  unfold nameS
  rw [decide_eq_false (by omega : ¬ z.length ≤ 8)]
  simp
theorem mem_mid (x y : Str) (c : Nat) : c ∈ ((x ++ (⟨#[c]⟩ : Str)) ++ y).cps.toList := by
  have e : ((x ++ (⟨#[c]⟩ : Str)) ++ y).cps = (x.cps ++ #[c]) ++ y.cps := rfl
  rw [e]
  simp
structure Odd (K : PySem.W.Frag) (H : Hp) (x : V) : Prop where
  pt : ∃ T, PlainT K H x T
  nn : x ≠ .non
  nm : nameV x = false
  sz : ∀ z, x = .str z → z.length ≤ 1000
section
variable {P : Program} {w : World} {K : PySem.W.Frag} {mg : Str → Option Value} {base : Heap} {C : Addr}
theorem Odd.str {H : Hp} {z : Str} (h : nameS z = false) (hl : z.length ≤ 1000) : Odd K H (.str z) := ⟨⟨_, .str z⟩, nofun, h, fun s e => by cases e; exact hl⟩
noncomputable def spOdd (K : PySem.W.Frag) : Sp := fun vs H Q _ => ∃ (p : Addr) (z : Str), vs = [.ref p, .str z] ∧ Src H p ∧ GoodN z ∧ ∀ (x : V) (H' : Hp), Odd K H' x → Keep [p] H H' → Q x H'
theorem okOdd (G : FunG K mg "_law_odd" sOdd ["_law_source", "_law_name"]) (CN : Cal P w K mg base CX0 2 "_law_next" ["_law_source", "_law_many"] spNext) (b_len : Blt mg "len") : Cal P w K mg base CX0 3 "_law_odd" ["_law_source", "_law_name"] (spOdd K) := by
  refine G.ok scOdd (fun vs H Q E h => by obtain ⟨p, z, rfl, _⟩ := h; rfl) (fun f cdv A outer s0 H vs Q E hr h => ?_)
  obtain ⟨p, z, rfl, ⟨a, b, c, hp⟩, ⟨hn, hz8⟩, q⟩ := h
  have hr2 : Room 2 _ := hr
  have hz1 : 1 ≤ z.length := by
    unfold nameS at hn
    simp only [Bool.and_eq_true, decide_eq_true_eq] at hn
    exact hn.1.1
  have zs : z.length ≤ sizeLine := by rw [sizeLine_eq]; omega
  refine ⟨_, (pss_cons (ps_set (i := 2) scOdd.nd rfl (Or.inl rfl) (pe_cal CN hr2 (pa_cons (pv 0) (pa_cons pe_int pa_nil))))
      (@pss_cons _ _ _ _ _ (@ps_setL _ _ _ 3 _ _ _ _ scOdd.nd rfl (Or.inl rfl) (Or.inl rfl) (@pa_run _ _ _ 10 [.str "", .str "ninesigns", .str "Gate", .str "a1", .str "a b", .str "-", .int 7, .int 0, .bl true, .bl false] (.cons .str (.cons .str (.cons .str (.cons .str (.cons .str (.cons .str (.cons .int (.cons .int (.cons .bl (.cons .bl .nil)))))))))) (pa_cons (pe_lst (pa_cons pe_str pa_nil)) (pa_cons (pe_tup (pa_cons pe_str (pa_cons pe_str pa_nil))) (pa_cons pe_dnewK (pa_cons pe_str (pa_cons pe_str pa_nil)))))))
      (pss_cons (ps_set (i := 4) scOdd.nd rfl (Or.inl rfl) pe_str)
      (pss_cons (ps_if (pt_cmpR op_eq (pv 2) pe_int (nomark _)) (pss_cons (ps_set (i := 5) scOdd.nd rfl (Or.inl rfl) (pe_cal CN hr2 (pa_cons (pv 0) (pa_cons (pe_blt call_len b_len bo_len (pa_cons (pv 1) pa_nil)) pa_nil))))
      (pss_one (ps_ret (pe_op op_add_str (pe_op op_add_str (pe_slice sl_str (pv 1) po_none (po_some (pv 5))) (pe_ix ix_str (pv 4) (pe_cal CN hr2 (pa_cons (pv 0) (pa_cons (pe_blt call_len b_len bo_len (pa_cons (pv 4) pa_nil)) pa_nil))) (fun _ _ => rfl))) (pe_slice sl_str (pv 1) (po_some (pe_op op_add (pv 5) pe_int)) po_none))))) pss_nil)
      (pss_cons (ps_if (pt_cmpR op_eq (pv 2) pe_int (nomark _)) (pss_one (ps_ret (pe_slice sl_str (pe_op op_mulS (pv 1) pe_int) po_none (po_some (pe_op op_add pe_int (pe_cal CN hr2 (pa_cons (pv 0) (pa_cons pe_int pa_nil)))))))) pss_nil)
      (pss_one (ps_ret (pe_ix ix_lstH (pv 3) (pe_cal CN hr2 (pa_cons (pv 0) (pa_cons (pe_blt call_len b_len bo_len (pa_cons (pv 3) pa_nil)) pa_nil))) (fun _ _ => rfl))))))))), ?_⟩
  refine ⟨_, rfl, p, a, b, c, 4, rfl, hp, by decide, by decide, fun way a1 c1 w0 w1 => ?_⟩
  have k1 : Keep [p] H (upd H p (.lst [.int a1, .int b, .int c1])) := Keep.at (by simp)
  have s1 : upd H p (.lst [.int a1, .int b, .int c1]) p = some (.lst [.int a1, .int b, .int c1]) := upd_same
  generalize upd H p (.lst [.int a1, .int b, .int c1]) = H1 at k1 s1 ⊢
  refine ⟨by show 1 ≤ sizeLine; decide, fun l1 g1 => ⟨by show 2 ≤ sizeLine; decide, fun t1 g2 => fun d1 g3 => ⟨by show 15 ≤ sizeLine; decide, fun ps g4 => ?_⟩⟩⟩
  have kl := Keep.new (S := []) (o := .lst [.str "a"]) g1
  have kt := Keep.new (S := []) (o := .tup [.str "a", .str "b"]) g2
  have kd := Keep.new (S := []) (o := .dK []) g3
  have o1 : PlainT K (upd (upd (upd H1 l1 (.lst [.str "a"])) t1 (.tup [.str "a", .str "b"])) d1 (.dK [])) (.ref l1) "list" := .lst (kd _ _ (by simp) (kt _ _ (by simp) upd_same))
  have o2 : PlainT K (upd (upd (upd H1 l1 (.lst [.str "a"])) t1 (.tup [.str "a", .str "b"])) d1 (.dK [])) (.ref t1) "tuple" := .tup (kd _ _ (by simp) upd_same)
  have o3 : PlainT K (upd (upd (upd H1 l1 (.lst [.str "a"])) t1 (.tup [.str "a", .str "b"])) d1 (.dK [])) (.ref d1) "dict" := .dK upd_same
  have kk : Keep [] H1 (upd (upd (upd H1 l1 (.lst [.str "a"])) t1 (.tup [.str "a", .str "b"])) d1 (.dK [])) := (kl.trans kt).trans kd
  generalize upd (upd (upd H1 l1 (.lst [.str "a"])) t1 (.tup [.str "a", .str "b"])) d1 (.dK []) = H2 at g4 o1 o2 o3 kk ⊢
  have kp : Keep [] H2 (upd H2 ps (.lst [.str "", .str "ninesigns", .str "Gate", .str "a1", .str "a b", .str "-", .int 7, .int 0, .bl true, .bl false, .ref l1, .ref t1, .ref d1, .str "gate ", .str "\n"])) := Keep.new g4
  have ep : upd H2 ps (.lst [.str "", .str "ninesigns", .str "Gate", .str "a1", .str "a b", .str "-", .int 7, .int 0, .bl true, .bl false, .ref l1, .ref t1, .ref d1, .str "gate ", .str "\n"]) ps = some (.lst [.str "", .str "ninesigns", .str "Gate", .str "a1", .str "a b", .str "-", .int 7, .int 0, .bl true, .bl false, .ref l1, .ref t1, .ref d1, .str "gate ", .str "\n"]) := upd_same
  change tSeq _ _ _ _ (upd H2 ps (.lst [.str "", .str "ninesigns", .str "Gate", .str "a1", .str "a b", .str "-", .int 7, .int 0, .bl true, .bl false, .ref l1, .ref t1, .ref d1, .str "gate ", .str "\n"]))
  generalize upd H2 ps _ = H3 at kp ep ⊢
  have k3 : Keep [] H1 H3 := kk.trans kp
  have s3 := k3 _ _ (by simp) s1
  have kA : Keep [p] H H3 := k1.trans (k3.mono (by simp))
  have ps3 : ps ≠ p := by
    intro e
    rw [e, s3] at ep
    cases ep
  have all : ∀ x ∈ ([.str "", .str "ninesigns", .str "Gate", .str "a1", .str "a b", .str "-", .int 7, .int 0, .bl true, .bl false, .ref l1, .ref t1, .ref d1, .str "gate ", .str "\n"] : List V), ∀ H', Keep [p] H3 H' → l1 ≠ p → t1 ≠ p → d1 ≠ p → Odd K H' x := by
    intro x hx H' kH n1 n2 n3
    have kq : ∀ {y : Addr} {T : String}, PlainT K H2 (.ref y) T → y ≠ p → PlainT K H' (.ref y) T := fun {y T} h ne => by
      have h3 := h.keep kp
      cases h3 with
      | lst e => exact .lst (kH _ _ (by simp [ne]) e)
      | tup e => exact .tup (kH _ _ (by simp [ne]) e)
      | dK e => exact .dK (kH _ _ (by simp [ne]) e)
    simp only [List.mem_cons, List.not_mem_nil, or_false] at hx
    rcases hx with rfl | rfl | rfl | rfl | rfl | rfl | rfl | rfl | rfl | rfl | rfl | rfl | rfl | rfl | rfl
    · exact .str (by decide +kernel) (by decide +kernel)
    · exact .str (by decide +kernel) (by decide +kernel)
    · exact .str (by decide +kernel) (by decide +kernel)
    · exact .str (by decide +kernel) (by decide +kernel)
    · exact .str (by decide +kernel) (by decide +kernel)
    · exact .str (by decide +kernel) (by decide +kernel)
    · exact ⟨⟨_, .int _⟩, nofun, rfl, nofun⟩
    · exact ⟨⟨_, .int _⟩, nofun, rfl, nofun⟩
    · exact ⟨⟨_, .bl _⟩, nofun, rfl, nofun⟩
    · exact ⟨⟨_, .bl _⟩, nofun, rfl, nofun⟩
    · exact ⟨⟨_, kq o1 n1⟩, nofun, rfl, nofun⟩
    · exact ⟨⟨_, kq o2 n2⟩, nofun, rfl, nofun⟩
    · exact ⟨⟨_, kq o3 n3⟩, nofun, rfl, nofun⟩
    · exact .str (by decide +kernel) (by decide +kernel)
    · exact .str (by decide +kernel) (by decide +kernel)
  have n1 : l1 ≠ p := by intro e; rw [e, s1] at g1; cases g1
  have n2 : t1 ≠ p := by
    intro e
    have := kl _ _ (by simp) s1
    rw [e, this] at g2; cases g2
  have n3 : d1 ≠ p := by
    intro e
    have := (kl.trans kt) _ _ (by simp) s1
    rw [e, this] at g3; cases g3
  refine ⟨_, rfl, rfl, _, rfl, ?_⟩
  refine ite2 (fun h1 => ?_) (fun h1 => ?_)
  · refine ⟨_, rfl, _, rfl, _, z.length, rfl, ⟨zs, rfl⟩, p, a1, b, c1, _, rfl, s3, by omega, by omega, fun at_ a2 c2 t0 t1 => ?_⟩
    refine ⟨_, rfl, _, rfl, _, rfl, z, rfl, zs, _, rfl, _, rfl, _, rfl, _, _, rfl, ⟨?_, rfl⟩, p, a2, b, c2, _, rfl, upd_same, ?_, ?_, fun n a4 c4 n0 n1 => ?_⟩
    · decide
    · decide
    · decide
    · rw [upd_upd]
      obtain ⟨ch, hc1, hc2⟩ := atI_in (xs := signs.cps.toList) n0 n1
      have e1 := Txt.slice_le z none (some at_)
      have e2 := Txt.slice_le z (some (at_ + 1)) none
      refine ⟨_, _, ch, rfl, rfl, by decide, hc1, _, _, rfl, rfl, ?_, _, rfl, _, rfl, _, _, rfl, rfl, _, rfl, z, rfl, zs, _, _, rfl, rfl, ?_, ?_⟩
      · rw [sizeLine_eq]
        show _ + 1 ≤ _
        omega
      · rw [len_app, sizeLine_eq]
        show _ + 1 + _ ≤ _
        omega
      · refine q _ _ (.str (name_no (mem_mid _ _ _) (signs_no ch (List.mem_of_getElem? hc2))) ?_) (kA.trans (Keep.at (by simp)))
        rw [len_app, len_app]
        show _ + 1 + _ ≤ _
        omega
  · refine ⟨_, rfl, rfl, _, rfl, ?_⟩
    refine ite2 (fun h2 => ?_) (fun h2 => ?_)
    · refine ⟨_, rfl, z, 9, rfl, rfl, by decide, hz1, by show z.length * 9 ≤ 100000; omega, ?_⟩
      refine ⟨_, rfl, p, a1, b, c1, 3, rfl, s3, by decide, by decide, fun v a2 c2 v0 v1 => ⟨_, _, rfl, rfl, _, rfl, _, rfl, ?_, ?_⟩⟩
      · rw [repS_len, sizeLine_eq]
        show 9 * z.length ≤ _
        omega
      · have e0 := slice_len (repS z 9) (9 + v) (by omega)
        have e1 := repS_len z 9
        have e2 : (9 : Int).toNat * z.length = 9 * z.length := rfl
        refine q _ _ (.str (name_long ?_) ?_) (kA.trans (Keep.at (by simp)))
        · omega
        · omega
    · refine ⟨_, rfl, _, rfl, _, rfl, _, _, rfl, .inl ⟨_, .of ep, rfl⟩, p, a1, b, c1, _, rfl, s3, by show (0 : Int) < 15; decide, by show (15 : Int) < 4611686018427387904; decide, fun v a2 c2 v0 v1 => ?_⟩
      obtain ⟨x, hx1, hx2⟩ := atI_in (xs := ([.str "", .str "ninesigns", .str "Gate", .str "a1", .str "a b", .str "-", .int 7, .int 0, .bl true, .bl false, .ref l1, .ref t1, .ref d1, .str "gate ", .str "\n"] : List V)) v0 v1
      refine ⟨ps, _, _, x, rfl, rfl, by rw [upd_ne ps3]; exact ep, hx1, ?_⟩
      exact q x _ (all x (List.mem_of_getElem? hx2) _ (Keep.at (by simp)) n1 n2 n3) (kA.trans (Keep.at (by simp)))
end
end K21
set_option Elab.async false
set_option linter.all false
set_option maxRecDepth 100000
set_option maxHeartbeats 4000000
namespace K21
open PySem L2
noncomputable abbrev sTo : Stmt := top 41
noncomputable abbrev sRe : Stmt := top 44
theorem hl_ar (nm : V) (nl sl : Addr) : (hfl nm nl sl).lookup ("arrow" : Str) = none := rfl
theorem hl_ro (nm : V) (nl sl : Addr) : (hfl nm nl sl).lookup ("row" : Str) = none := rfl
theorem hl_in (nm : V) (nl sl : Addr) : (hfl nm nl sl).lookup ("inside" : Str) = none := rfl
theorem hl_ha (nm : V) (nl sl : Addr) : (hfl nm nl sl).lookup ("has_asked" : Str) = none := rfl
theorem hl_as (nm : V) (nl sl : Addr) : (hfl nm nl sl).lookup ("askers" : Str) = none := rfl
section
variable {P : Program} {w : World} {K : PySem.W.Frag} {mg : Str → Option Value} {base : Heap} {C CS : Addr}
theorem scTo : FnScope ["_law_house", "_law_many", "_law_found", "_law_right"] ["_law_house", "_law_many"] (defScope sTo) := ⟨rfl, rfl, rfl, by decide +kernel, rfl, by decide +kernel, by decide +kernel⟩
theorem scRe : FnScope ["_law_name", "_law_neighbours", "_law_ways", "_law_e"] ["_law_name", "_law_neighbours", "_law_ways"] (defScope sRe) := ⟨rfl, rfl, rfl, by decide +kernel, rfl, by decide +kernel, by decide +kernel⟩
noncomputable def spTo (C CS : Addr) : Sp := fun vs H Q _ => ∃ (B : Hp) (p : Addr) (nm : Str) (nb : List Str) (xs : List (Addr × Addr)) (ars : List (Option Str)), vs = [.ref p, .int (ars.length : Int)] ∧ HouseAt B C CS H p nm nb xs (freshS ars) ∧ ars.length ≤ 100 ∧
  ∀ (r : Addr) (ts : List (Addr × Addr)) (H' : Hp), H r = none → ts.length = ars.length → H' r = some (.lst (ts.map fun t => V.ref t.1)) → (∀ (j : Nat) (t : Addr × Addr), ts[j]? = some t → H' t.1 = some (.lst [optV (ars.getD j none), .ref t.2, .non, .bl false]) ∧ H' t.2 = some (.lst []) ∧ H t.1 = none ∧ H t.2 = none) → Keep [] H H' → Q (.ref r) H'
theorem okTo (T : HouseT K C) (G : FunG K mg "_law_told" sTo ["_law_house", "_law_many"]) (MA : MCal P w K mg base CX0 3 C "arrow" ["self", "right"] (spHAr C CS)) (MR : MCal P w K mg base CX0 3 C "row" ["self", "right"] (spHRo C CS)) (MI : MCal P w K mg base CX0 3 C "inside" ["self", "right"] (spHIn C CS)) (MHa : MCal P w K mg base CX0 3 C "has_asked" ["self", "right"] (spHHa C CS)) (b_range : Blt mg "range") :
    Cal P w K mg base CX0 4 "_law_told" ["_law_house", "_law_many"] (spTo C CS) := by
  refine G.ok scTo (fun vs H Q E h => by obtain ⟨B, p, nm, nb, xs, ars, rfl, _⟩ := h; rfl) (fun f cdv A outer s0 H vs Q E hr h => ?_)
  obtain ⟨B, p, nm, nb, xs, ars, rfl, hh, la, q⟩ := h
  have hr3 : Room 3 _ := hr
  refine ⟨_, (pss_cons (ps_set (i := 2) scTo.nd rfl (Or.inl rfl) (pe_lst pa_nil))
      (pss_cons (ps_for PassesOwn.never rfl (pi_range1 rfl b_range.no (pa_cons (pv 1) pa_nil)) (pg_name (i := 3) scTo.nd rfl (Or.inl rfl)) (pss_one (ps_expr (pe_bm PySem.F.plainAttrs_list PySem.F.slot_list_append PySem.F.type_list_append mt_append (pv 2) (pa_cons (pe_lst (pa_cons (pe_mth MA T.cl hr3 (pv 0) (pa_cons (pv 3) pa_nil)) (pa_cons (pe_mth MR T.cl hr3 (pv 0) (pa_cons (pv 3) pa_nil)) (pa_cons (pe_mth MI T.cl hr3 (pv 0) (pa_cons (pv 3) pa_nil)) (pa_cons (pe_mth MHa T.cl hr3 (pv 0) (pa_cons (pv 3) pa_nil)) pa_nil))))) pa_nil)))))
      (pss_one (ps_ret (pv 2))))), ?_⟩
  refine ⟨Nat.zero_le _, fun fo hfo => ?_⟩
  have k0 : Keep [] H (upd H fo (.lst [])) := Keep.new hfo
  refine ⟨_, rfl, _, rfl, by omega, by omega, for_range (fun i σ H1 => ∃ (ts : List (Addr × Addr)) (v3 : Option V), σ = [some (.ref p), some (.int (ars.length : Int)), some (.ref fo), v3] ∧ ts.length = i ∧ H1 fo = some (.lst (ts.map fun t => V.ref t.1)) ∧ (∀ (j : Nat) (t : Addr × Addr), ts[j]? = some t → H1 t.1 = some (.lst [optV (ars.getD j none), .ref t.2, .non, .bl false]) ∧ H1 t.2 = some (.lst []) ∧ H t.1 = none ∧ H t.2 = none ∧ t.1 ≠ fo ∧ t.2 ≠ fo) ∧ Keep [fo] H H1) ⟨[], _, rfl, rfl, upd_same, (fun j t e => by simp at e), Keep.at (by simp)⟩ ?_ ?_⟩
  · rintro i σ H1 hi ⟨ts, v3, rfl, hl, h1, each, k1⟩
    have hh1 := hh.on (k1.drop hfo)
    obtain ⟨dx, nl, sl, _, hp, _⟩ := id hh1
    have il : i < ars.length := by omega
    have es : (freshS ars)[i]? = some ⟨ars[i], [], none, false⟩ := by unfold freshS; rw [List.getElem?_map, List.getElem?_eq_getElem il]; rfl
    have eg : ars.getD i none = ars[i] := by rw [List.getD_eq_getElem?_getD, List.getElem?_eq_getElem il]; rfl
    have ei : (0 : Int) + (i : Int) = (i : Int) := by omega
    refine ⟨_, rfl, Or.inl ⟨rfl, _, .of h1⟩, _, rfl, p, dx, _, rfl, hp, hl_ar _ _ _, _, rfl, B, p, i, nm, nb, xs, _, _, congrArg (fun z => [V.ref p, V.int z]) ei, hh1, es, ?_⟩
    refine ⟨_, rfl, p, dx, _, rfl, hp, hl_ro _ _ _, _, rfl, B, p, i, nm, nb, xs, _, _, congrArg (fun z => [V.ref p, V.int z]) ei, hh1, es, fun r H2 hr ⟨rs, hrs, hrp⟩ k2 => ?_⟩
    cases hrp
    have hh2 := hh1.on k2
    have hp2 := k2 _ _ (by simp) hp
    refine ⟨_, rfl, p, dx, _, rfl, hp2, hl_in _ _ _, _, rfl, B, p, i, nm, nb, xs, _, _, congrArg (fun z => [V.ref p, V.int z]) ei, hh2, es, ?_⟩
    refine ⟨_, rfl, p, dx, _, rfl, hp2, hl_ha _ _ _, _, rfl, B, p, i, nm, nb, xs, _, _, congrArg (fun z => [V.ref p, V.int z]) ei, hh2, es, ?_⟩
    refine ⟨by show 4 ≤ sizeLine; decide, fun u hu => ?_⟩
    have k3 : Keep [] H2 (upd H2 u (.lst [optV ars[i], .ref r, .non, .bl false])) := Keep.new hu
    have e3 : upd H2 u (.lst [optV ars[i], .ref r, .non, .bl false]) u = some (.lst [optV ars[i], .ref r, .non, .bl false]) := upd_same
    have hfu : u ≠ fo := Ne.symm (ne_of_none (k2 _ _ (by simp) h1) hu)
    have hfr : r ≠ fo := Ne.symm (ne_of_none h1 hr)
    have k13 := k2.trans k3
    have h3 := k13 _ _ (by simp) h1
    refine ⟨fo, _, _, rfl, rfl, h3, by rw [List.length_map, sizeLine_eq]; omega, ?_⟩
    have kf : Keep [fo] (upd H2 u (.lst [optV ars[i], .ref r, .non, .bl false])) (upd (upd H2 u (.lst [optV ars[i], .ref r, .non, .bl false])) fo (.lst ((ts.map fun t => V.ref t.1) ++ [.ref u]))) := Keep.at (by simp)
    refine ⟨ts ++ [(u, r)], _, rfl, by simp [hl], by rw [upd_same]; simp, fun j t hj => ?_, (k1.trans (k13.mono (by simp))).trans kf⟩
    by_cases jl : j < ts.length
    · rw [List.getElem?_append_left jl] at hj
      obtain ⟨a1, a2, a3, a4, a5, a6⟩ := each j t hj
      exact ⟨kf _ _ (by simp [a5]) (k13 _ _ (by simp) a1), kf _ _ (by simp [a6]) (k13 _ _ (by simp) a2), a3, a4, a5, a6⟩
    · rw [List.getElem?_append_right (by omega)] at hj
      have ej : j = i := by
        have := (List.getElem?_eq_some_iff.mp hj).1
        simp at this; omega
      subst ej
      rw [hl, Nat.sub_self] at hj
      cases hj
      rw [eg]
      exact ⟨kf _ _ (by simp [hfu]) e3, kf _ _ (by simp [hfr]) (k3 _ _ (by simp) hrs), k1.none (by simp [hfu]) (k2.none (by simp) hu), k1.none (by simp [hfr]) hr, hfu, hfr⟩
  · rintro σ H1 ⟨ts, v3, rfl, hl, h1, each, k1⟩
    rw [Int.toNat_natCast] at hl
    refine ⟨_, rfl, q fo ts H1 hfo hl h1 (fun j t hj => ?_) (k1.drop hfo)⟩
    obtain ⟨a1, a2, a3, a4, _, _⟩ := each j t hj
    exact ⟨a1, a2, a3, a4⟩
noncomputable def BadH (x y : V) (o1 o2 : Option (List V)) : Prop := nameV x = false ∨ (∃ nm, x = .str nm ∧ nameV x = true ∧ (nbV o1 x = false ∨ ∃ (a : Addr) (nb : List Str), y = .ref a ∧ o1 = some (nb.map V.str) ∧ nbV o1 x = true ∧ arsV nb o2 = false))
noncomputable def spRe (K : PySem.W.Frag) : Sp := fun vs H Q _ => ∃ (x y z : V) (o1 o2 : Option (List V)), vs = [x, y, z] ∧ Plain1 K H x ∧ Things K H y o1 ∧ Things K H z o2 ∧ BadH x y o1 o2 ∧ ∀ H', Keep [] H H' → Q (.str "seat") H'
theorem okRe {cs : Nat → Addr} {DC : Addr} (G : FunG K mg "_law_refusal" sRe ["_law_name", "_law_neighbours", "_law_ways"]) (MHX : MkCal P w K mg base (CXE P w) 4 C "House" ["self", "name", "neighbours", "arrows"] (spHX K (cs 2))) (CK : CalH P w K mg base 1 "_law_kinds" ["_law_e"] (spKindsH cs))
    (hm : mg "TreeError" = some (.ref DC)) (hx : ∀ i, i < 12 → PySem.W.exmOne K (.ref (cs i)) (.ref DC) = some true) : Cal P w K mg base CX0 6 "_law_refusal" ["_law_name", "_law_neighbours", "_law_ways"] (spRe K) := by
  refine G.ok scRe (fun vs H Q E h => by obtain ⟨x, y, z, o1, o2, rfl, _⟩ := h; rfl) (fun f cdv A outer s0 H vs Q E hr h => ?_)
  obtain ⟨x, y, z, o1, o2, rfl, px, ty, tz, bad, q⟩ := h
  have hr5 : Room 5 _ := hr
  have hr1 : Room 1 _ := hr.mono (by decide)
  refine ⟨_, (pss_cons (ps_try (i := 3) (th := (fun a => tRet (tCallH a (spKindsH cs) (tCons (tVar 3) tNil)))) hm scRe.nd rfl rfl (fun pn' xe' E1 hp => pss_one (ps_expr (pe_mkX MHX hp hr5 (pa_cons (pv 0) (pa_cons (pv 1) (pa_cons (pv 2) pa_nil)))))) (fun pn' a => pss_one (ps_ret (pe_calH CK (hr1.toH (some (.ref a))) rfl (pa_cons (pv 3) pa_nil))))) (pss_one (ps_ret pe_str))), ?_⟩
  refine ⟨_, rfl, _, rfl, _, rfl, fun p dx hp hdx ne => ?_⟩
  have kB : Keep [] H (upd (upd H dx (.own p)) p (.ins C dx [])) := (Keep.new hdx).trans (Keep.new (by rw [upd_ne ne.symm]; exact hp))
  refine ⟨p, x, y, z, o1, o2, rfl, px.on kB, ty.on kB, tz.on kB, bad, fun H1 k1 => ?_⟩
  refine ⟨cs 2, rfl, hx 2 (by decide), fun a σ' hl ha => ?_⟩
  have k2 : Keep [] H1 (upd H1 a (excO (cs 2) a)) := Keep.new ha
  refine ⟨.ref a, ?_, 2, rfl, by decide, upd_same, fun H3 k3 => ?_⟩
  · rw [List.getElem?_set_self (by rw [hl]; show 3 < 4; decide)]
  · exact q H3 ((kB.trans k1).trans (k2.trans k3))
end
end K21
set_option Elab.async false
set_option linter.all false
set_option maxRecDepth 100000
set_option maxHeartbeats 4000000
namespace K21
open PySem L2
noncomputable abbrev sMd : Stmt := top 42
theorem call_lenG {X : Cx} {K : PySem.W.Frag} (e : X.K = K := by rfl) : CallR X (.builtin "len") (fun xs H Q => ∃ x n, xs = [x] ∧ LenV K x H n ∧ Q (V.int (n : Int)) H) := e ▸ call_len
theorem Src.on {H H' : Hp} {p : Addr} (h : Src H p) (k : Keep [] H H') : Src H' p := let ⟨a, b, c, e⟩ := h; ⟨a, b, c, k _ _ (by simp) e⟩
theorem Src.ne {H : Hp} {p q : Addr} (h : Src H p) (hq : H q = none) : q ≠ p := by
  obtain ⟨a, b, c, e⟩ := h
  exact Ne.symm (ne_of_none e hq)
theorem way_at (nb : List Str) {v : Int} (h0 : 0 ≤ v) (h1 : v < (nb.length : Int) + 1) : ∃ ar : Option Str, atI (nb.map V.str ++ [V.non]) v = some (optV ar) ∧ ∀ z, ar = some z → z ∈ nb := by
  obtain ⟨u, a, b⟩ := atI_in (xs := nb.map V.str ++ [V.non]) h0 (by rw [List.length_append, List.length_map]; simp; omega)
  by_cases hv : v.toNat < nb.length
  · rw [List.getElem?_append_left (by rw [List.length_map]; exact hv), List.getElem?_map, List.getElem?_eq_getElem hv] at b
    exact ⟨some nb[v.toNat], by rw [a, ← b]; rfl, fun z e => by cases e; exact List.getElem_mem hv⟩
  · have ev : v.toNat = nb.length := by omega
    rw [ev, List.getElem?_append_right (by rw [List.length_map]; exact Nat.le_refl _), List.length_map, Nat.sub_self] at b
    exact ⟨none, by rw [a, ← b]; rfl, fun z e => by cases e⟩
theorem cut_mid (l : List V) (k : Nat) : cutV l (some 1) (some (1 + (k : Int))) = (l.drop 1).take k := by
  unfold cutV
  rw [show (1 : Int) = ((1 : Nat) : Int) from rfl, HT.sIx_nat, show ((1 : Nat) : Int) + (k : Int) = ((1 + k : Nat) : Int) by omega, HT.sIx_nat]
  cases l with
  | nil => simp
  | cons x l =>
    simp only [List.length_cons]
    rw [show min 1 (l.length + 1) = 1 by omega]
    show l.take _ = l.take k
    by_cases h : k ≤ l.length
    · rw [show min (1 + k) (l.length + 1) - 1 = k by omega]
    · rw [List.take_of_length_le (by omega), List.take_of_length_le (by omega)]
section
variable {P : Program} {w : World} {K : PySem.W.Frag} {mg : Str → Option Value} {base : Heap} {C : Addr}
theorem scMd : FnScope ["_law_cell", "_law_source", "_law_same", "_law_many", "_law_names_here", "_law_neighbours", "_law_ways", "_law_askers"] ["_law_cell"] (defScope sMd) := ⟨rfl, rfl, rfl, by decide +kernel, rfl, by decide +kernel, by decide +kernel⟩
noncomputable def spMd : Sp := fun vs H Q _ => ∃ c : Int, vs = [.int c] ∧ ∀ (t nl wl al : Addr) (nm : Str) (nb : List Str) (ars : List (Option Str)) (H' : Hp), H' t = some (.tup [.str nm, .ref nl, .ref wl, .ref al]) → H' nl = some (.lst (nb.map V.str)) → H' wl = some (.lst (ars.map optV)) → H nl = none → H wl = none → nl ≠ wl → GoodN nm → (∀ z ∈ nb, GoodN z) → nb.Nodup → nm ∉ nb → nb.length ≤ 11 → ars ≠ [] → ars.length ≤ 4 → (∀ z, some z ∈ ars → z ∈ nb) → Keep [] H H' → Q (.ref t) H'
theorem okMd (G : FunG K mg "_law_made" sMd ["_law_cell"]) (CD : Cal P w K mg base CX0 1 "_law_digits" ["_law_cell"] spDigits) (CN : Cal P w K mg base CX0 2 "_law_next" ["_law_source", "_law_many"] spNext) (CNa : Cal P w K mg base CX0 3 "_law_names" ["_law_source", "_law_many"] spNames) (b_len : Blt mg "len") (b_range : Blt mg "range") : Cal P w K mg base CX0 4 "_law_made" ["_law_cell"] spMd := by
  refine G.ok scMd (fun vs H Q E h => by obtain ⟨c, rfl, _⟩ := h; rfl) (fun f cdv A outer s0 H vs Q E hr h => ?_)
  obtain ⟨c, rfl, q⟩ := h
  have hr3 : Room 3 _ := hr
  have hr2 : Room 2 _ := hr.mono (by decide)
  have hr1 : Room 1 _ := hr.mono (by decide)
  refine ⟨_, (pss_cons (ps_set (i := 1) scMd.nd rfl (Or.inr rfl) (pe_cal CD hr1 (pa_cons (pv 0) pa_nil)))
      (pss_cons (ps_set (i := 2) scMd.nd rfl (Or.inl rfl) (pe_cmpR op_eq (pe_cal CN hr2 (pa_cons (pv 1) (pa_cons pe_int pa_nil))) pe_int (nomark _)))
      (pss_cons (ps_set (i := 3) scMd.nd rfl (Or.inl rfl) (pe_lst (pa_cons (pe_cal CN hr2 (pa_cons (pv 1) (pa_cons pe_int pa_nil))) (pa_cons (pe_op op_add pe_int (pe_cal CN hr2 (pa_cons (pv 1) (pa_cons pe_int pa_nil)))) (pa_cons (pe_op op_add pe_int (pe_cal CN hr2 (pa_cons (pv 1) (pa_cons pe_int pa_nil)))) pa_nil)))))
      (pss_cons (ps_set (i := 4) scMd.nd rfl (Or.inl rfl) (pe_cal CNa hr3 (pa_cons (pv 1) (pa_cons pe_int pa_nil))))
      (pss_cons (ps_set (i := 5) scMd.nd rfl (Or.inr rfl) (pe_slice sl_list (pv 4) (po_some pe_int) (po_some (pe_op op_add pe_int (pe_ix ix_lstH (pv 3) pe_int (fun _ _ => rfl))))))
      (pss_cons (ps_setLC1 (i := 6) scMd.nd rfl (Or.inl rfl) (N := ["_law_cell", "_law_source", "_law_same", "_law_many", "_law_names_here", "_law_neighbours", "_law_ways", "_law_askers"]) (sc := defScope sMd) (ix := [5, 1]) (by decide +kernel) (pi_range1 rfl b_range.no (pa_cons (pe_ix ix_lstH (pv 3) pe_int (fun _ _ => rfl)) pa_nil)) (fun _ _ _ _ => pts_nil) (fun _ _ _ _ => (pe_ix ix_lstH (pe_op op_cat (pv 1) (pe_lst (pa_cons pe_non pa_nil))) (pe_cal CN hr2 (pa_cons (pv 2) (pa_cons (pe_op op_add (pe_blt (call_lenG (K := K)) b_len bo_len (pa_cons (pv 1) pa_nil)) pe_int) pa_nil))) (fun _ _ => rfl))))
      (pss_cons (ps_set (i := 7) scMd.nd rfl (Or.inl rfl) (pv 4))
      (pss_cons (ps_if (pt_not (pt_val (pv 2))) (pss_one (ps_set (i := 7) scMd.nd rfl (Or.inl rfl) (pe_cal CNa hr3 (pa_cons (pv 1) (pa_cons pe_int pa_nil))))) pss_nil)
      (pss_one (ps_ret (pe_tup (pa_cons (pe_ix ix_lstH (pv 4) pe_int (fun _ _ => rfl)) (pa_cons (pv 5) (pa_cons (pv 6) (pa_cons (pe_slice sl_list (pv 7) po_none (po_some (pe_ix ix_lstH (pv 3) pe_int (fun _ _ => rfl)))) pa_nil))))))))))))))), ?_⟩
  refine ⟨_, rfl, c, rfl, fun s b1 c1 e1 hs => ?_⟩
  refine ⟨_, rfl, s, b1, c1, e1, 2, rfl, upd_same, by decide, by decide, fun u a2 c2 u0 u1 => ⟨rfl, ?_⟩⟩
  refine ⟨_, rfl, s, a2, c1, c2, 12, rfl, upd_same, by decide, by decide, fun k a3 c3 w0 w1 => ?_⟩
  refine ⟨_, rfl, s, a3, c1, c3, 4, rfl, upd_same, by decide, by decide, fun m a4 c4 m0 m1 => ⟨_, _, rfl, rfl, ?_⟩⟩
  refine ⟨_, rfl, s, a4, c1, c4, 10, rfl, upd_same, by decide, by decide, fun n a5 c5 n0 n1 => ⟨_, _, rfl, rfl, by show 3 ≤ sizeLine; decide, fun ml hml => ?_⟩⟩
  simp only [upd_upd] at hml ⊢
  have k1 : Keep [] H (upd H s (.lst [.int a5, .int c1, .int c5])) := Keep.new hs
  generalize hH1 : upd H s (.lst [.int a5, .int c1, .int c5]) = H1 at k1 hml ⊢
  have s1 : Src H1 s := ⟨a5, c1, c5, by rw [← hH1]; exact upd_same⟩
  have k2 : Keep [] H1 (upd H1 ml (.lst [.int k, .int (1 + m), .int (1 + n)])) := Keep.new hml
  have e2 : upd H1 ml (.lst [.int k, .int (1 + m), .int (1 + n)]) ml = some (.lst [.int k, .int (1 + m), .int (1 + n)]) := upd_same
  generalize upd H1 ml (.lst [.int k, .int (1 + m), .int (1 + n)]) = H2 at k2 e2
  have s2 : Src H2 s := s1.on k2
  have sml : ml ≠ s := s1.ne hml
  refine ⟨_, rfl, s, 12, rfl, s2, by decide, by decide, fun nh zs H3 hnh enh lz gz nd k3 s3 => ?_⟩
  have lz12 : zs.length = 12 := lz
  have e3 := k3 _ _ (by simp [sml]) e2
  have snh : nh ≠ s := s2.ne hnh
  have k03 : Keep [s] H H3 := ((k1.trans k2).mono (by simp)).trans k3
  refine ⟨_, rfl, 1, rfl, _, rfl, ml, _, 0, _, rfl, rfl, e3, rfl, _, _, rfl, rfl, _, rfl, nh, _, rfl, .of enh, fun nl hnl => ?_⟩
  have ek : (1 : Int) + k = 1 + ((k.toNat : Nat) : Int) := by omega
  rw [ek, cut_mid, ← List.map_drop, ← List.map_take]
  generalize hnb : (zs.drop 1).take k.toNat = nb
  have snl : nl ≠ s := s3.ne hnl
  have k4 : Keep [] H3 (upd H3 nl (.lst (nb.map V.str))) := Keep.new hnl
  have e4 : upd H3 nl (.lst (nb.map V.str)) nl = some (.lst (nb.map V.str)) := upd_same
  generalize upd H3 nl (.lst (nb.map V.str)) = H4 at k4 e4
  have s4 := s3.on k4
  have lnb : nb.length ≤ 11 := by rw [← hnb, List.length_take, List.length_drop]; omega
  have sub : ∀ z ∈ nb, z ∈ zs.drop 1 := fun z hz => by rw [← hnb] at hz; exact List.mem_of_mem_take hz
  obtain ⟨nm, zt, ez⟩ : ∃ nm zt, zs = nm :: zt := by
    cases zs with
    | nil => simp at lz12
    | cons a b => exact ⟨a, b, rfl⟩
  have ed : zs.drop 1 = zt := by rw [ez]; rfl
  obtain ⟨nin, ndt⟩ := List.nodup_cons.mp (ez ▸ nd)
  have gnb : ∀ z ∈ nb, GoodN z := fun z hz => gz z (by rw [ez]; exact List.mem_cons_of_mem _ (ed ▸ sub z hz))
  have ndn : nb.Nodup := by rw [← hnb, ed]; exact ndt.sublist (List.take_sublist _ _)
  have nmn : nm ∉ nb := fun h => nin (ed ▸ sub nm h)
  refine ⟨_, rfl, ml, _, 1, _, rfl, rfl, k4 _ _ (by simp) e3, rfl, _, rfl, by omega, by omega, fun acc hacc => ?_⟩
  have nla : nl ≠ acc := ne_of_none e4 hacc
  have sa : acc ≠ s := s4.ne hacc
  refine lc_range0 (by rw [sizeLine_eq]; omega) (fun i ys τ H5 => ∃ (ars : List (Option Str)) (kk : Option V), τ = kk :: [some (.ref nl), some (.ref s)] ∧ ys = ars.map optV ∧ ars.length = i ∧ (∀ z, some z ∈ ars → z ∈ nb) ∧ Keep [acc, s] H4 H5 ∧ Src H5 s ∧ H5 acc = some (.lst ys)) ?_ ?_ ?_ ?_
  · exact ⟨[], none, rfl, rfl, rfl, (fun z hz => by cases hz), Keep.at (by simp), s4.on (Keep.new hacc), upd_same⟩
  · rintro i ys τ H5 ⟨ars, kk, rfl, rfl, hl, _, _, _, h5⟩
    exact ⟨h5, by rw [List.length_map]; omega⟩
  · rintro i ys τ H5 hi ⟨ars, kk, rfl, rfl, hl, hg, kp, ⟨x5, y5, z5, hs5⟩, h5⟩
    have e5 := kp _ _ (by simp [nla, snl]) e4
    refine ⟨_, rfl, by show 1 ≤ sizeLine; decide, fun l1 h1 => ⟨nl, l1, _, _, rfl, rfl, (Keep.new (S := []) h1) _ _ (by simp) e5, upd_same, by rw [List.length_map, sizeLine_eq]; show _ + 1 ≤ _; omega, fun l2 h2 => ?_⟩⟩
    have k6 : Keep [] H5 (upd (upd H5 l1 (.lst [.non])) l2 (.lst (nb.map V.str ++ [V.non]))) := (Keep.new h1).trans (Keep.new h2)
    have e6 : upd (upd H5 l1 (.lst [.non])) l2 (.lst (nb.map V.str ++ [V.non])) l2 = some (.lst (nb.map V.str ++ [V.non])) := upd_same
    have n2 : H5 l2 = none := (upd_none h2).1
    generalize upd (upd H5 l1 (.lst [.non])) l2 (.lst (nb.map V.str ++ [V.non])) = H6 at k6 e6 ⊢
    have hs6 := k6 _ _ (by simp) hs5
    have h56 := k6 _ _ (by simp) h5
    refine ⟨_, rfl, _, rfl, _, _, rfl, .inl ⟨_, .of (k6 _ _ (by simp) e5), rfl⟩, _, _, rfl, rfl, s, x5, y5, z5, _, rfl, hs6, by rw [List.length_map]; omega, by rw [List.length_map]; omega, fun v a7 c7 v0 v1 => ?_⟩
    rw [List.length_map] at v1
    obtain ⟨ar, ea, za⟩ := way_at nb v0 v1
    have l2s : l2 ≠ s := Ne.symm (ne_of_none hs5 n2)
    refine ⟨l2, _, v, _, rfl, rfl, by rw [upd_ne l2s]; exact e6, ea, ?_⟩
    refine ⟨by rw [upd_ne sa]; exact h56, ars ++ [ar], _, rfl, by simp, by simp [hl], ?_, ((kp.trans (k6.mono (by simp))).trans (Keep.at (by simp))).trans (Keep.at (by simp)), ⟨a7, y5, c7, by rw [upd_ne sa.symm, upd_same]⟩, upd_same⟩
    intro z hz
    rcases List.mem_append.mp hz with h | h
    · exact hg z h
    · exact za z (List.mem_singleton.mp h).symm
  rintro ys τ H5 ⟨ars, kk, rfl, rfl, hl, hg, kp, s5, h5⟩
  have lars : ars.length = (1 + m).toNat := hl
  have nars : ars ≠ [] := fun e => by rw [e] at lars; simp at lars; omega
  have k45 : Keep [s] H4 H5 := fun b o hb ho => kp b o (by
    simp only [List.mem_cons, List.not_mem_nil, or_false, not_or] at hb ⊢
    exact ⟨(fun e => by rw [e, hacc] at ho; cases ho), hb⟩) ho
  have k05 : Keep [s] H H5 := (k03.trans (k4.mono (by simp))).trans k45
  have nlH : H nl = none := k03.none (by simp [snl]) hnl
  have accH : H acc = none := (k03.trans (k4.mono (by simp))).none (by simp [sa]) hacc
  have enh5 := k45 _ _ (by simp [snh]) (k4 _ _ (by simp) enh)
  have e5 := k45 _ _ (by simp [snl]) e4
  have ml5 := k45 _ _ (by simp [sml]) (k4 _ _ (by simp) e3)
  have fin : ∀ (bb : Bool) (al : Addr) (as : List Str) (H6 : Hp), H6 al = some (.lst (as.map V.str)) → Keep [s] H5 H6 → tRet (tTup (tCons (tOp rIxH (tVar 4) (tC (.int 0))) (tCons (tVar 5) (tCons (tVar 6) (tCons (tSl (rSlL K) (tVar 7) tNoPart (tPart (tOp rIxH (tVar 3) (tC (.int 2))))) tNil))))) { nx := fun _ H' => Q V.non H', rt := Q } [some (.int c), some (.ref s), some (.bl bb), some (.ref ml), some (.ref nh), some (.ref nl), some (.ref acc), some (.ref al)] H6 := by
    intro bb al as H6 hal k56
    have enh6 := k56 _ _ (by simp [snh]) enh5
    have nl6 := k56 _ _ (by simp [snl]) e5
    have ac6 := k56 _ _ (by simp [sa]) h5
    have ml6 := k56 _ _ (by simp [sml]) ml5
    have at0 : atI (zs.map V.str) 0 = some (.str nm) := atI_nat (j := 0) (by rw [ez]; rfl)
    refine ⟨_, rfl, nh, _, 0, _, rfl, rfl, enh6, at0, _, rfl, _, rfl, _, rfl, _, rfl, ml, _, 2, _, rfl, rfl, ml6, rfl, _, rfl, al, _, rfl, .of hal, fun sl hsl => ?_⟩
    refine ⟨by show 4 ≤ sizeLine; decide, fun t ht => ?_⟩
    generalize cutV _ _ _ = cu at ht ⊢
    have k6 : Keep [] H6 (upd H6 sl (.lst cu)) := Keep.new hsl
    have k8 : Keep [] H6 (upd (upd H6 sl (.lst cu)) t (.tup [.str nm, .ref nl, .ref acc, .ref sl])) := k6.trans (Keep.new ht)
    exact q t nl acc sl nm nb ars _ upd_same (k8 _ _ (by simp) nl6) (k8 _ _ (by simp) ac6) nlH accH nla (gz nm (by rw [ez]; exact List.mem_cons_self ..)) gnb ndn nmn lnb nars (by omega) hg (((k05.trans k56).trans (k8.mono (by simp))).drop hs)
  refine ⟨_, rfl, ?_⟩
  refine ⟨_, rfl, ?_⟩
  refine ⟨_, rfl, ?_⟩
  cases decide (V.int u = V.int 1) with
  | true => exact fin true nh zs H5 enh5 (Keep.refl _)
  | false =>
    refine ⟨_, rfl, s, 10, rfl, s5, by decide, by decide, fun al as H6 _ e6 _ _ _ k6 _ => ?_⟩
    exact fin false al as H6 e6 k6
end
end K21
set_option Elab.async false
set_option linter.all false
set_option maxRecDepth 100000
set_option maxHeartbeats 4000000
namespace K21
open PySem L2
noncomputable abbrev sWr : Stmt := top 43
theorem cut_to {α : Type} (f : α → V) (l : List α) {k : Int} (hk : 0 ≤ k) : cutV (l.map f) none (some k) = (l.take k.toNat).map f := by
  unfold cutV
  obtain ⟨n, rfl⟩ := Int.eq_ofNat_of_zero_le hk
  rw [HT.sIx_none, HT.sIx_nat, List.drop_zero, List.length_map, Nat.sub_zero, ← List.map_take]
  congr 1
  rcases Nat.le_total n l.length with h | h
  · rw [Nat.min_eq_left h]; rfl
  · rw [Nat.min_eq_right h, List.take_of_length_le (Nat.le_refl _)]; exact (List.take_of_length_le h).symm
theorem cut_from {α : Type} (f : α → V) (l : List α) {k : Int} (hk : 0 ≤ k) : cutV (l.map f) (some k) none = (l.drop k.toNat).map f := by
  unfold cutV
  obtain ⟨n, rfl⟩ := Int.eq_ofNat_of_zero_le hk
  rw [HT.sIx_none, HT.sIx_nat, List.length_map, ← List.map_drop, ← List.map_take]
  congr 1
  show (l.drop (min n l.length)).take (l.length - min n l.length) = l.drop n
  rcases Nat.le_total n l.length with h | h
  · rw [Nat.min_eq_left h, List.take_of_length_le (by rw [List.length_drop]; omega)]
  · rw [Nat.min_eq_right h, List.drop_of_length_le (Nat.le_refl _), List.drop_of_length_le h]; simp
open PySem.Spec PyProof.Rows PySem.Builtin.Str in
noncomputable def rMulS1 : R2 := fun x y H Q => ∃ z n, x = .str z ∧ y = .int n ∧ 1 ≤ n ∧ 1 ≤ z.length ∧ z.length * n.toNat ≤ 100000 ∧ Q (.str (repS z n)) H
open PySem.Spec PyProof.Rows PySem.Builtin.Str in
theorem op_mulS1 {X : Cx} : OpR X (binaryOp .Mult) rMulS1 := by
  intro pins s σ H x y v u Q I rx ry h
  obtain ⟨z, n, rfl, rfl, hn, hz, hl, q⟩ := h
  by_cases h1 : n = 1
  · subst h1
    obtain ⟨t, rfl⟩ := rx
    obtain ⟨t', rfl⟩ := ry
    have e : repS z 1 = z := by
      show (⟨#[] ++ z.cps⟩ : Str) = z
      rw [Array.empty_append]
    rw [e] at q
    refine P.mul_str ?_ (fun _ h => ?_) (fun _ h => ?_) ?_
    · decide
    · simp at h
    · simp at h
    · rw [if_neg (by decide), if_pos (by simp)]
      exact ⟨.str z, H, I, ⟨_, rfl⟩, q⟩
  · exact op_mulS pins s σ H _ _ v u Q I rx ry ⟨z, n, rfl, rfl, by omega, hz, hl, q⟩
theorem stars {z : Str} {σ : St} {H1 : Hp} {acc : Addr} {Q : VK} (hz : z.length = 1) (ha : H1 acc = none) (q : ∀ H', H' acc = some (.lst (((List.range 8).map fun k : Nat => repS z (1 + (k : Int))).map V.str)) → Keep [] H1 H' → Q (.ref acc) H') :
    LCW (Itr 1 (9 - 1 : Int).toNat) ["_law_k"] [] (gName 0) tYes (tOp rMulS1 (tC (.str z)) (tVar 0)) σ H1 acc Q := by
  refine lc_range0 (by rw [sizeLine_eq]; decide) (fun i ys τ H => ∃ kk, τ = [kk] ∧ ys = ((List.range i).map fun k : Nat => repS z (1 + (k : Int))).map V.str ∧ Keep [acc] H1 H ∧ H acc = some (.lst ys)) ?_ ?_ ?_ ?_
  · exact ⟨none, rfl, rfl, Keep.at (by simp), upd_same⟩
  · rintro i ys τ H ⟨kk, rfl, rfl, k, h⟩; exact ⟨h, by simp⟩
  · rintro i ys τ H hi ⟨kk, rfl, rfl, k, h⟩
    have hi' : i < 8 := hi
    refine ⟨_, rfl, z, 1 + (i : Int), rfl, rfl, by omega, by omega, by rw [hz]; omega, h, _, rfl, by rw [List.range_succ, List.map_append, List.map_append]; rfl, k.trans (Keep.at (by simp)), upd_same⟩
  · rintro ys τ H ⟨kk, rfl, rfl, k, h⟩; exact q H h (k.drop ha)
theorem pig {α : Type} [DecidableEq α] : ∀ (xs ys : List α), xs.Nodup → (∀ x ∈ xs, x ∈ ys) → xs.length ≤ ys.length := by
  intro xs
  induction xs with
  | nil => intro ys _ _; exact Nat.zero_le _
  | cons x xs ih =>
    intro ys nd sub
    obtain ⟨nx, nd'⟩ := List.nodup_cons.mp nd
    have hx := sub x (List.mem_cons_self ..)
    have := ih (ys.erase x) nd' (fun y hy => (List.mem_erase_of_ne (fun e : y = x => nx (e ▸ hy))).mpr (sub y (List.mem_cons_of_mem _ hy)))
    rw [List.length_erase_of_mem hx] at this
    have := List.length_pos_of_mem hx
    simp only [List.length_cons]
    omega
noncomputable def zy : List Str := ((List.range 8).map fun k : Nat => repS "z" (1 + (k : Int))) ++ ((List.range 8).map fun k : Nat => repS "y" (1 + (k : Int)))
theorem zy_un : zy.Nodup := by decide +kernel
theorem zy_8 : ∀ z ∈ zy, z.length ≤ 8 := by decide +kernel
theorem strange_ok (nb : List Str) (h : nb.length ≤ 11) : ∃ w ws, zy.filter (fun z => !decide (z ∈ nb)) = w :: ws ∧ w ∉ nb ∧ w.length ≤ 8 := by
  cases e : zy.filter (fun z => !decide (z ∈ nb)) with
  | nil =>
    have := pig zy nb zy_un (fun z hz => by
      have := List.filter_eq_nil_iff.mp e z hz
      simpa using this)
    have l : zy.length = 16 := by decide +kernel
    omega
  | cons w ws =>
    have hw : w ∈ zy.filter (fun z => !decide (z ∈ nb)) := by rw [e]; exact List.mem_cons_self ..
    rw [List.mem_filter] at hw
    exact ⟨w, ws, rfl, by simpa using hw.2, zy_8 w hw.1⟩
theorem mid {K : PySem.W.Frag} {σ : St} {H : Hp} {Q : VK} {li pi : Nat} {al : Addr} {l : List V} {i j : Int} {te tp : TE} {Pv : V → Prop} (hl : σ[li]? = some (some (.ref al))) (hp : σ[pi]? = some (some (.int i))) (ht : ∀ (H1 : Hp) (R : VK), R (.int j) H1 → tp σ H1 R)
    (he : ∀ (H1 : Hp) (R : VK), Keep [] H H1 → (∀ v H2, Keep [] H1 H2 → Plain1 K H2 v → Pv v → R v H2) → te σ H1 R) (ha : H al = some (.lst l)) (hz : l.length ≤ 20)
    (q : ∀ (p : Addr) (v : V) (H' : Hp), Plain1 K H' v → Pv v → H' p = some (.lst (cutV l none (some i) ++ [v] ++ cutV l (some j) none)) → Keep [] H H' → Q (.ref p) H') :
    tOp rCat (tOp rCat (tSl (rSlL K) (tVar li) tNoPart (tPart (tVar pi))) (tLst (tCons te tNil))) (tSl (rSlL K) (tVar li) (tPart tp) tNoPart) σ H Q := by
  refine ⟨_, hl, _, hp, _, rfl, al, _, rfl, .of ha, fun c1 h1 => ?_⟩
  have k1 := Keep.new (S := []) (o := .lst (cutV l none (some i))) h1
  have e1 : upd H c1 (.lst (cutV l none (some i))) c1 = some (.lst (cutV l none (some i))) := upd_same
  generalize upd H c1 (.lst (cutV l none (some i))) = H1 at k1 e1 ⊢
  refine he H1 _ k1 fun v H2 k2 pv hv => ⟨by show 1 ≤ sizeLine; decide, fun c3 h3 => ?_⟩
  have k3 := Keep.new (S := []) (o := .lst [v]) h3
  have e3 : upd H2 c3 (.lst [v]) c3 = some (.lst [v]) := upd_same
  generalize upd H2 c3 (.lst [v]) = H3 at k3 e3 ⊢
  have la := cutV_length l none (some i)
  have lb := cutV_length l (some j) none
  have hS : 1000 ≤ sizeLine := by rw [sizeLine_eq]; omega
  refine ⟨c1, c3, _, _, rfl, rfl, k3 _ _ (by simp) (k2 _ _ (by simp) e1), e3, by simp only [List.length_cons, List.length_nil]; omega, fun c4 h4 => ?_⟩
  have k4 := Keep.new (S := []) (o := .lst (cutV l none (some i) ++ [v])) h4
  have e4 : upd H3 c4 (.lst (cutV l none (some i) ++ [v])) c4 = some (.lst (cutV l none (some i) ++ [v])) := upd_same
  generalize upd H3 c4 (.lst (cutV l none (some i) ++ [v])) = H4 at k4 e4 ⊢
  have k04 : Keep [] H H4 := ((k1.trans k2).trans k3).trans k4
  refine ⟨_, hl, ht _ _ ⟨_, rfl, al, _, rfl, .of (k04 _ _ (by simp) ha), fun c5 h5 => ?_⟩⟩
  have k5 := Keep.new (S := []) (o := .lst (cutV l (some j) none)) h5
  have e5 : upd H4 c5 (.lst (cutV l (some j) none)) c5 = some (.lst (cutV l (some j) none)) := upd_same
  generalize upd H4 c5 (.lst (cutV l (some j) none)) = H5 at k5 e5 ⊢
  refine ⟨c4, c5, _, _, rfl, rfl, k5 _ _ (by simp) e4, e5, by simp only [List.length_append, List.length_cons, List.length_nil]; omega, fun c6 h6 => ?_⟩
  have k6 := Keep.new (S := []) (o := .lst (cutV l none (some i) ++ [v] ++ cutV l (some j) none)) h6
  exact q c6 v _ (pv.on (((k3.trans k4).trans k5).trans k6)) hv upd_same ((k04.trans k5).trans k6)
theorem nb_badx {l : List V} {x y : V} (hx : x ∈ l) (h : nameV x = false) : nbV (some l) y = false := by
  show (l.all nameV && _ && _) = false
  have : l.all nameV = false := List.all_eq_false.mpr ⟨x, hx, by rw [h]; decide⟩
  rw [this]; rfl
theorem nb_dup {A B : List Str} {y nm : Str} (h : y = nm ∨ y ∈ A ∨ y ∈ B) : nbV (some (A.map V.str ++ [.str y] ++ B.map V.str)) (.str nm) = false := by
  have e : A.map V.str ++ [.str y] ++ B.map V.str = (A ++ [y] ++ B).map V.str := by simp
  rw [e]
  show (_ && decide ((A ++ [y] ++ B).map V.str).Nodup && !inV (.str nm) ((A ++ [y] ++ B).map V.str)) = false
  rw [nodup_strs, inV_str]
  rcases h with rfl | h | h
  · simp
  · have : ¬ (A ++ [y] ++ B).Nodup := fun n => by
      rw [List.append_assoc, List.nodup_append] at n
      exact n.2.2 y h y (by simp) rfl
    rw [decide_eq_false this]; simp
  · have : ¬ (A ++ [y] ++ B).Nodup := fun n => by
      rw [List.nodup_append] at n
      exact n.2.2 y (by simp) y h rfl
    rw [decide_eq_false this]; simp
theorem ars_badx {l : List V} {x : V} {nb : List Str} (hx : x ∈ l) (h : arrV nb x = false) : arsV nb (some l) = false := by
  show (_ && l.all (arrV nb)) = false
  have : l.all (arrV nb) = false := List.all_eq_false.mpr ⟨x, hx, by rw [h]; decide⟩
  rw [this, Bool.and_false]
theorem arr_no {nb : List Str} {z : Str} (h : z ∉ nb) : arrV nb (.str z) = false := by
  show (_ || oneV (.str z) nb) = false
  rw [one_bad (fun y hy e => by cases e; exact h hy)]
  rfl
section
variable {P : Program} {w : World} {K : PySem.W.Frag} {mg : Str → Option Value} {base : Heap} {C : Addr}
theorem scWr : FnScope ["_law_source", "_law_name", "_law_neighbours", "_law_ways", "_law_way", "_law_turn", "_law_at", "_law_place", "_law_other", "_law_thing", "_law_strange"] ["_law_source", "_law_name", "_law_neighbours", "_law_ways"] (defScope sWr) := ⟨rfl, rfl, rfl, by decide +kernel, rfl, by decide +kernel, by decide +kernel⟩
noncomputable def spWr (K : PySem.W.Frag) : Sp := fun vs H Q _ => ∃ (s nl wl : Addr) (nm : Str) (nb : List Str) (ars : List (Option Str)), vs = [.ref s, .str nm, .ref nl, .ref wl] ∧ Src H s ∧ H nl = some (.lst (nb.map V.str)) ∧ H wl = some (.lst (ars.map optV)) ∧ GoodN nm ∧ (∀ z ∈ nb, GoodN z) ∧ nb.Nodup ∧ nm ∉ nb ∧ nb.length ≤ 11 ∧ ars ≠ [] ∧ ars.length ≤ 4 ∧ (∀ z, some z ∈ ars → z ∈ nb) ∧
  ∀ (t : Addr) (x y z : V) (o1 o2 : Option (List V)) (H' : Hp), H' t = some (.tup [x, y, z]) → Plain1 K H' x → Things K H' y o1 → Things K H' z o2 → BadH x y o1 o2 → Keep [s] H H' → Q (.ref t) H'
theorem okWr (G : FunG K mg "_law_wrong" sWr ["_law_source", "_law_name", "_law_neighbours", "_law_ways"]) (CN : Cal P w K mg base CX0 2 "_law_next" ["_law_source", "_law_many"] spNext) (CO : Cal P w K mg base CX0 3 "_law_odd" ["_law_source", "_law_name"] (spOdd K)) (b_len : Blt mg "len") (b_range : Blt mg "range") (b_tuple : Blt mg "tuple") : Cal P w K mg base CX0 4 "_law_wrong" ["_law_source", "_law_name", "_law_neighbours", "_law_ways"] (spWr K) := by
  refine G.ok scWr (fun vs H Q E h => by obtain ⟨s, nl, wl, nm, nb, ars, rfl, _⟩ := h; rfl) (fun f cdv A outer s0 H vs Q E hr h => ?_)
  obtain ⟨s, nl, wl, nm, nb, ars, rfl, ⟨a, b, c, hs⟩, hn, hw, gn, gnb, nd, nin, ln, ne, la, sub, q⟩ := h
  have hr3 : Room 3 _ := hr
  have hr2 : Room 2 _ := hr.mono (by decide)
  have nls : nl ≠ s := by
    intro e
    rw [e, hs] at hn
    cases nb with
    | nil => cases hn
    | cons x l => cases hn
  have wls : wl ≠ s := by
    intro e
    rw [e, hs] at hw
    cases ars with
    | nil => cases hw
    | cons x l => cases x with
      | none => cases hw
      | some z => cases hw
  have lar : 0 < ars.length := List.length_pos_iff.mpr ne
  refine ⟨_, (pss_cons (ps_set (i := 4) scWr.nd rfl (Or.inl rfl) (pe_cal CN hr2 (pa_cons (pv 0) (pa_cons pe_int pa_nil))))
      (pss_cons (ps_set (i := 5) scWr.nd rfl (Or.inl rfl) (pe_cal CN hr2 (pa_cons (pv 0) (pa_cons pe_int pa_nil))))
      (pss_cons (ps_set (i := 6) scWr.nd rfl (Or.inl rfl) (pe_cal CN hr2 (pa_cons (pv 0) (pa_cons (pe_op op_add (pe_blt call_len b_len bo_len (pa_cons (pv 2) pa_nil)) pe_int) pa_nil))))
      (pss_cons (ps_set (i := 7) scWr.nd rfl (Or.inl rfl) (pe_cal CN hr2 (pa_cons (pv 0) (pa_cons (pe_blt call_len b_len bo_len (pa_cons (pv 3) pa_nil)) pa_nil))))
      (pss_cons (ps_set (i := 8) scWr.nd rfl (Or.inl rfl) (pe_ix ix_lstH (pe_lst (pa_cons pe_non (pa_cons pe_int (pa_cons pe_str (pa_cons pe_bl (pa_cons pe_dnewK pa_nil)))))) (pe_cal CN hr2 (pa_cons (pv 0) (pa_cons pe_int pa_nil))) (fun _ _ => rfl)))
      (pss_cons (ps_set (i := 9) scWr.nd rfl (Or.inl rfl) (pe_cal CO hr3 (pa_cons (pv 0) (pa_cons (pv 1) pa_nil))))
      (pss_cons (ps_setLC1 (i := 10) scWr.nd rfl (Or.inl rfl) (N := ["_law_source", "_law_name", "_law_neighbours", "_law_ways", "_law_way", "_law_turn", "_law_at", "_law_place", "_law_other", "_law_thing", "_law_strange"]) (sc := defScope sWr) (ix := [2]) (by decide +kernel) (pi_list (pe_op op_cat (pe_lc1 (N := ["_law_source", "_law_name", "_law_neighbours", "_law_ways", "_law_way", "_law_turn", "_law_at", "_law_place", "_law_other", "_law_thing", "_law_strange"]) (sc := defScope sWr) (ix := []) (by decide +kernel) (pi_range2 rfl b_range.no (pa_cons pe_int (pa_cons pe_int pa_nil))) (fun _ _ _ _ => pts_nil) (fun _ _ _ _ => (pe_op op_mulS1 pe_str (pv 0)))) (pe_lc1 (N := ["_law_source", "_law_name", "_law_neighbours", "_law_ways", "_law_way", "_law_turn", "_law_at", "_law_place", "_law_other", "_law_thing", "_law_strange"]) (sc := defScope sWr) (ix := []) (by decide +kernel) (pi_range2 rfl b_range.no (pa_cons pe_int (pa_cons pe_int pa_nil))) (fun _ _ _ _ => pts_nil) (fun _ _ _ _ => (pe_op op_mulS1 pe_str (pv 0)))))) (fun _ _ _ _ => (pts_one (pt_cmpR op_notIn_H (pv 0) (pv 1) (by with_unfolding_all rfl)))) (fun _ _ _ _ => (pv 0)))
      (pss_cons (ps_if (pt_cmpR op_eq (pv 4) pe_int (nomark _)) (pss_one (ps_ret (pe_tup (pa_cons (pv 9) (pa_cons (pv 2) (pa_cons (pv 3) pa_nil)))))) pss_nil)
      (pss_cons (ps_if (pt_cmpR op_eq (pv 4) pe_int (nomark _)) (pss_one (ps_ret (pe_tup (pa_cons (pv 1) (pa_cons (pe_op op_cat (pe_op op_cat (pe_slice sl_list (pv 2) po_none (po_some (pv 6))) (pe_lst (pa_cons (pe_ix ix_lstH (pe_lst (pa_cons (pv 9) (pa_cons pe_non pa_nil))) (pv 5) (fun _ _ => rfl)) pa_nil))) (pe_slice sl_list (pv 2) (po_some (pv 6)) po_none)) (pa_cons (pv 3) pa_nil)))))) pss_nil)
      (pss_cons (ps_if (pt_cmpR op_eq (pv 4) pe_int (nomark _)) (pss_one (ps_ret (pe_tup (pa_cons (pv 1) (pa_cons (pe_op op_cat (pe_op op_cat (pe_slice sl_list (pv 2) po_none (po_some (pv 6))) (pe_lst (pa_cons (pe_ix ix_lstH (pe_op op_cat (pv 2) (pe_lst (pa_cons (pv 1) pa_nil))) pe_int (fun _ _ => rfl)) pa_nil))) (pe_slice sl_list (pv 2) (po_some (pv 6)) po_none)) (pa_cons (pv 3) pa_nil)))))) pss_nil)
      (pss_cons (ps_if (pt_cmpR op_eq (pv 4) pe_int (nomark _)) (pss_one (ps_ret (pe_tup (pa_cons (pv 1) (pa_cons (pe_op op_cat (pe_op op_cat (pe_slice sl_list (pv 2) po_none (po_some (pv 6))) (pe_lst (pa_cons (pv 1) pa_nil))) (pe_slice sl_list (pv 2) (po_some (pv 6)) po_none)) (pa_cons (pv 3) pa_nil)))))) pss_nil)
      (pss_cons (ps_if (pt_cmpR op_eq (pv 4) pe_int (nomark _)) (pss_one (ps_ret (pe_tup (pa_cons (pv 1) (pa_cons (pv 2) (pa_cons (pe_op op_cat (pe_op op_cat (pe_slice sl_list (pv 3) po_none (po_some (pv 7))) (pe_lst (pa_cons (pe_ix ix_lstH (pe_lst (pa_cons (pv 1) (pa_cons (pe_ix ix_lstH (pv 10) pe_int (fun _ _ => rfl)) pa_nil))) (pv 5) (fun _ _ => rfl)) pa_nil))) (pe_slice sl_list (pv 3) (po_some (pe_op op_add (pv 7) pe_int)) po_none)) pa_nil)))))) pss_nil)
      (pss_cons (ps_if (pt_cmpR op_eq (pv 4) pe_int (nomark _)) (pss_one (ps_ret (pe_tup (pa_cons (pv 1) (pa_cons (pv 2) (pa_cons (pe_op op_cat (pe_op op_cat (pe_slice sl_list (pv 3) po_none (po_some (pv 7))) (pe_lst (pa_cons (pv 9) pa_nil))) (pe_slice sl_list (pv 3) (po_some (pe_op op_add (pv 7) pe_int)) po_none)) pa_nil)))))) pss_nil)
      (pss_cons (ps_if (pt_cmpR op_eq (pv 4) pe_int (nomark _)) (pss_one (ps_ret (pe_tup (pa_cons (pv 1) (pa_cons (pv 2) (pa_cons (pe_ix ix_lstH (pe_lst (pa_cons (pe_lst pa_nil) (pa_cons (pe_callTy call_tuple_of rfl b_tuple.no bo_tuple (pa_cons (pv 3) pa_nil)) pa_nil))) (pv 5) (fun _ _ => rfl)) pa_nil)))))) pss_nil)
      (pss_cons (ps_if (pt_cmpR op_eq (pv 4) pe_int (nomark _)) (pss_one (ps_ret (pe_tup (pa_cons (pv 1) (pa_cons (pe_ix ix_lstH (pe_lst (pa_cons (pv 8) (pa_cons (pe_callTy call_tuple_of rfl b_tuple.no bo_tuple (pa_cons (pv 2) pa_nil)) pa_nil))) (pv 5) (fun _ _ => rfl)) (pa_cons (pv 3) pa_nil)))))) pss_nil)
      (pss_one (ps_ret (pe_tup (pa_cons (pv 1) (pa_cons (pv 2) (pa_cons (pv 8) pa_nil))))))))))))))))))))), ?_⟩
  refine ⟨_, rfl, s, a, b, c, 9, rfl, hs, by decide, by decide, fun way a1 c1 w0 w1 => ?_⟩
  refine ⟨_, rfl, s, a1, b, c1, 2, rfl, upd_same, by decide, by decide, fun tn a2 c2 t0 t1 => ?_⟩
  rw [upd_upd]
  refine ⟨_, rfl, _, rfl, _, _, rfl, .inl ⟨_, .of (by rw [upd_ne nls]; exact hn), rfl⟩, _, _, rfl, rfl, s, a2, b, c2, _, rfl, upd_same, by rw [List.length_map]; omega, by rw [List.length_map]; omega, fun at_ a3 c3 p0 p1 => ?_⟩
  rw [upd_upd]
  refine ⟨_, rfl, _, rfl, _, _, rfl, .inl ⟨_, .of (by rw [upd_ne wls]; exact hw), rfl⟩, s, a3, b, c3, _, rfl, upd_same, by rw [List.length_map]; omega, by rw [List.length_map]; omega, fun pl a4 c4 q0 q1 => ?_⟩
  rw [upd_upd]
  rw [List.length_map] at p1 q1
  have k1 : Keep [s] H (upd H s (.lst [.int a4, .int b, .int c4])) := Keep.at (by simp)
  have s1 : upd H s (.lst [.int a4, .int b, .int c4]) s = some (.lst [.int a4, .int b, .int c4]) := upd_same
  generalize upd H s (.lst [.int a4, .int b, .int c4]) = H1 at k1 s1 ⊢
  refine fun d hd => ⟨by show 5 ≤ sizeLine; decide, fun ol hol => ?_⟩
  have kd := Keep.new (S := []) (o := .dK []) hd
  have ed : upd H1 d (.dK []) d = some (.dK []) := upd_same
  have ds : d ≠ s := Ne.symm (ne_of_none s1 hd)
  generalize upd H1 d (.dK []) = H2 at kd ed hol ⊢
  have ko := Keep.new (S := []) (o := .lst [.non, .int 7, .str "gate", .bl true, .ref d]) hol
  have eo : upd H2 ol (.lst [.non, .int 7, .str "gate", .bl true, .ref d]) ol = some (.lst [.non, .int 7, .str "gate", .bl true, .ref d]) := upd_same
  have os : ol ≠ s := Ne.symm (ne_of_none (kd _ _ (by simp) s1) hol)
  generalize upd H2 ol _ = H3 at ko eo ⊢
  have s3 := ko _ _ (by simp) (kd _ _ (by simp) s1)
  refine ⟨_, rfl, s, a4, b, c4, 5, rfl, s3, by decide, by decide, fun o a5 c5 o0 o1 => ?_⟩
  have k4 : Keep [s] H3 (upd H3 s (.lst [.int a5, .int b, .int c5])) := Keep.at (by simp)
  have s4 : upd H3 s (.lst [.int a5, .int b, .int c5]) s = some (.lst [.int a5, .int b, .int c5]) := upd_same
  generalize upd H3 s (.lst [.int a5, .int b, .int c5]) = H4 at k4 s4 ⊢
  obtain ⟨ov, ea, eb⟩ := atI_in (xs := ([.non, .int 7, .str "gate", .bl true, .ref d] : List V)) o0 o1
  refine ⟨ol, _, o, ov, rfl, rfl, k4 _ _ (by simp [os]) eo, ea, ?_⟩
  have oth : ∀ H', Keep [s] H4 H' → ∃ T, PlainT K H' ov T ∧ T ≠ "list" := by
    intro H' k
    have hm := List.mem_of_getElem? eb
    simp only [List.mem_cons, List.not_mem_nil, or_false] at hm
    rcases hm with rfl | rfl | rfl | rfl | rfl
    · exact ⟨_, .non, by decide⟩
    · exact ⟨_, .int _, by decide⟩
    · exact ⟨_, .str _, by decide⟩
    · exact ⟨_, .bl _, by decide⟩
    · exact ⟨_, .dK (k _ _ (by simp [ds]) (k4 _ _ (by simp [ds]) (ko _ _ (by simp) ed))), by decide⟩
  refine ⟨_, rfl, _, rfl, s, nm, rfl, ⟨a5, b, c5, s4⟩, gn, fun th H5 od k5 => ?_⟩
  have k05 : Keep [s] H H5 := ((k1.trans ((kd.trans ko).mono (by simp))).trans k4).trans k5
  refine ⟨1, 9, rfl, ⟨by decide, by decide, by decide, by decide⟩, fun g1 hg1 => stars rfl hg1 fun H6 e6 k6 => ⟨1, 9, rfl, ⟨by decide, by decide, by decide, by decide⟩, fun g2 hg2 => stars rfl hg2 fun H7 e7 k7 => ⟨g1, g2, _, _, rfl, rfl, k7 _ _ (by simp) e6, e7, by simp [sizeLine_eq], fun g3 hg3 => ⟨g3, rfl, ⟨_, .of upd_same⟩, fun acc hacc => ?_⟩⟩⟩⟩
  rw [← List.map_append] at hacc ⊢
  have k8 : Keep [] H7 (upd H7 g3 (.lst (zy.map V.str))) := Keep.new hg3
  have e8 : upd H7 g3 (.lst (zy.map V.str)) g3 = some (.lst (zy.map V.str)) := upd_same
  change upd H7 g3 (.lst (zy.map V.str)) acc = none at hacc
  change LCW _ _ _ _ _ _ _ (upd H7 g3 (.lst (zy.map V.str))) _ _
  generalize upd H7 g3 (.lst (zy.map V.str)) = H8 at k8 e8 hacc ⊢
  have k58 : Keep [] H5 H8 := (k6.trans k7).trans k8
  have hn5 := k05 _ _ (by simp [nls]) hn
  have hw5 := k05 _ _ (by simp [wls]) hw
  have nacc : nl ≠ acc := ne_of_none (k58 _ _ (by simp) hn5) hacc
  refine lc_vals (K := K) (ds := zy) (zy.map V.str) V.str (fun z => !decide (z ∈ nb)) [some (.ref nl)] (fun x d _ => x = .str d) (by decide +kernel) hacc e8 (by rw [List.length_map]) rfl ?_ ?_ ?_ ?_
  · intro i x dd H9 h1 h2 _
    rw [List.getElem?_map, h2] at h1
    exact (Option.some.inj h1).symm
  · rintro dd x H9 R hd k9 rfl r
    refine ⟨_, rfl, _, rfl, nl, _, rfl, k9 _ _ (by simp [nacc]) (k58 _ _ (by simp) hn5), rfl, flat_strs nb, _, rfl, ?_⟩
    rw [if_pos rfl, inV_str]
    exact r
  · rintro dd x H9 R _ _ _ rfl r; exact ⟨_, rfl, r⟩
  intro H9 e9 k9
  obtain ⟨wo, ws, ew, nw, lw⟩ := strange_ok nb ln
  rw [ew] at e9
  have k59 : Keep [] H5 H9 := k58.trans k9
  have k09 : Keep [s] H H9 := k05.trans (k59.mono (by simp))
  have hn9 := k59 _ _ (by simp) hn5
  have hw9 := k59 _ _ (by simp) hw5
  have PS : ∀ (H' : Hp) (z : Str), z.length ≤ 8 → Plain1 K H' (.str z) := fun H' z hz => ⟨⟨_, .str _⟩, fun y e => by cases e; omega⟩
  have pth : Plain1 K H9 th := ⟨let ⟨T, p⟩ := od.pt; ⟨T, p.keep k59⟩, od.sz⟩
  have POp : ∀ (H' : Hp) (v : Option Str), v ∈ ars → Plain1 K H' (optV v) := fun H' v hv => by
    cases v with
    | none => exact ⟨⟨_, .non⟩, fun y e => by cases e⟩
    | some z => exact PS H' z (gnb z (sub z hv)).2
  have TN : ∀ H', Keep [] H9 H' → Things K H' (.ref nl) (some (nb.map V.str)) := fun H' k => ⟨nl, rfl, k _ _ (by simp) hn9, (fun v hv => by obtain ⟨z, hz, rfl⟩ := List.mem_map.mp hv; exact PS H' z (gnb z hz).2), by rw [List.length_map]; omega⟩
  have TW : ∀ H', Keep [] H9 H' → Things K H' (.ref wl) (some (ars.map optV)) := fun H' k => ⟨wl, rfl, k _ _ (by simp) hw9, (fun v hv => by obtain ⟨z, hz, rfl⟩ := List.mem_map.mp hv; exact POp H' z hz), by rw [List.length_map]; omega⟩
  have TO : ∀ H', Keep [] H9 H' → Things K H' ov none := fun H' k => oth H' ((k5.trans (k59.mono (by simp))).trans (k.mono (by simp)))
  have nbt : nbV (some (nb.map V.str)) (.str nm) = true := by
    show ((nb.map V.str).all nameV && decide (nb.map V.str).Nodup && !inV (.str nm) (nb.map V.str)) = true
    rw [nodup_strs, inV_str, decide_eq_true nd, decide_eq_false nin, List.all_map]
    simp only [Bool.and_true, Bool.not_false]
    rw [List.all_eq_true]
    exact fun z hz => (gnb z hz).1
  have done : ∀ (x y z : V) (o1 o2 : Option (List V)) (H' : Hp), Keep [] H9 H' → Plain1 K H' x → Things K H' y o1 → Things K H' z o2 → BadH x y o1 o2 → ∀ t, H' t = none → Q (.ref t) (upd H' t (.tup [x, y, z])) := fun x y z o1 o2 H' k p1 p2 p3 bad t ht =>
    have kt := Keep.new (S := []) (o := .tup [x, y, z]) ht
    q t x y z o1 o2 _ upd_same (p1.on kt) (p2.on kt) (p3.on kt) bad (k09.trans ((k.trans kt).mono (by simp)))
  have badN : ∀ (y : V) (o1 o2 : Option (List V)), nbV o1 (.str nm) = false → BadH (.str nm) y o1 o2 := fun y o1 o2 h => .inr ⟨nm, rfl, gn.1, .inl h⟩
  have badW : ∀ (o2 : Option (List V)), arsV nb o2 = false → BadH (.str nm) (.ref nl) (some (nb.map V.str)) o2 := fun o2 h => .inr ⟨nm, rfl, gn.1, .inr ⟨nl, nb, rfl, rfl, nbt, h⟩⟩
  have TM : ∀ {p : Addr} {v : V} {H' : Hp} {n m : Nat}, Plain1 K H' v → H' p = some (.lst ((nb.take n).map V.str ++ [v] ++ (nb.drop m).map V.str)) → Things K H' (.ref p) (some ((nb.take n).map V.str ++ [v] ++ (nb.drop m).map V.str)) := fun {p v H' n m} pv hp => ⟨p, rfl, hp, (fun x hx => by
    rcases List.mem_append.mp hx with hx | hx
    · rcases List.mem_append.mp hx with hx | hx
      · obtain ⟨z, hz, rfl⟩ := List.mem_map.mp hx; exact PS H' z (gnb z (List.mem_of_mem_take hz)).2
      · rw [List.mem_singleton.mp hx]; exact pv
    · obtain ⟨z, hz, rfl⟩ := List.mem_map.mp hx; exact PS H' z (gnb z (List.mem_of_mem_drop hz)).2), by simp only [List.length_append, List.length_map, List.length_take, List.length_drop, List.length_cons, List.length_nil]; omega⟩
  have TA : ∀ {p : Addr} {v : V} {H' : Hp} {n m : Nat}, Plain1 K H' v → H' p = some (.lst ((ars.take n).map optV ++ [v] ++ (ars.drop m).map optV)) → Things K H' (.ref p) (some ((ars.take n).map optV ++ [v] ++ (ars.drop m).map optV)) := fun {p v H' n m} pv hp => ⟨p, rfl, hp, (fun x hx => by
    rcases List.mem_append.mp hx with hx | hx
    · rcases List.mem_append.mp hx with hx | hx
      · obtain ⟨z, hz, rfl⟩ := List.mem_map.mp hx; exact POp H' z (List.mem_of_mem_take hz)
      · rw [List.mem_singleton.mp hx]; exact pv
    · obtain ⟨z, hz, rfl⟩ := List.mem_map.mp hx; exact POp H' z (List.mem_of_mem_drop hz)), by simp only [List.length_append, List.length_map, List.length_take, List.length_drop, List.length_cons, List.length_nil]; omega⟩
  have tn01 : tn = 0 ∨ tn = 1 := by omega
  refine ⟨_, rfl, rfl, _, rfl, ?_⟩
  refine ite2 (fun h0 => ?_) (fun h0 => ?_)
  · exact ⟨_, rfl, _, rfl, _, rfl, by show 3 ≤ sizeLine; decide, done _ _ _ _ _ H9 (Keep.refl _) pth (TN _ (Keep.refl _)) (TW _ (Keep.refl _)) (.inl od.nm)⟩
  refine ⟨_, rfl, rfl, _, rfl, ?_⟩
  refine ite2 (fun h1 => ?_) (fun h1 => ?_)
  · refine ⟨_, rfl, ?_⟩
    refine mid (K := K) (al := nl) (i := at_) (j := at_) (Pv := fun v => nameV v = false) rfl rfl (fun H1 R r => ⟨_, rfl, r⟩) (fun H1 R k r => ?_) hn9 (by rw [List.length_map]; omega) (fun p v H' pv hv hp k' => ?_)
    · refine ⟨_, rfl, by show 2 ≤ sizeLine; decide, fun c2 h2 => ?_⟩
      have k2 := Keep.new (S := []) (o := .lst [th, .non]) h2
      rcases tn01 with rfl | rfl
      · exact ⟨_, rfl, c2, _, 0, th, rfl, rfl, upd_same, rfl, r th _ k2 ((pth.on k).on k2) od.nm⟩
      · exact ⟨_, rfl, c2, _, 1, .non, rfl, rfl, upd_same, rfl, r .non _ k2 ⟨⟨_, .non⟩, fun y e => by cases e⟩ rfl⟩
    · rw [cut_to _ _ p0, cut_from _ _ p0] at hp
      exact ⟨_, rfl, by show 3 ≤ sizeLine; decide, done _ _ _ _ _ H' k' (PS _ _ gn.2) (TM pv hp) (TW _ k') (badN _ _ _ (nb_badx (by simp) hv))⟩
  refine ⟨_, rfl, rfl, _, rfl, ?_⟩
  refine ite2 (fun h2 => ?_) (fun h2 => ?_)
  · refine ⟨_, rfl, ?_⟩
    obtain ⟨y, ys, ey⟩ : ∃ y ys, nb ++ [nm] = y :: ys := by
      cases nb with
      | nil => exact ⟨nm, [], rfl⟩
      | cons z l => exact ⟨z, l ++ [nm], rfl⟩
    have yin : y ∈ nb ++ [nm] := by rw [ey]; exact List.mem_cons_self ..
    have y8 : y.length ≤ 8 := by
      rcases List.mem_append.mp yin with h | h
      · exact (gnb y h).2
      · rw [List.mem_singleton.mp h]; exact gn.2
    refine mid (K := K) (al := nl) (i := at_) (j := at_) (Pv := fun v => v = .str y) rfl rfl (fun H1 R r => ⟨_, rfl, r⟩) (fun H1 R k r => ?_) hn9 (by rw [List.length_map]; omega) (fun p v H' pv hv hp k' => ?_)
    · refine ⟨_, rfl, _, rfl, by show 1 ≤ sizeLine; decide, fun c2 h2 => ?_⟩
      have k2 := Keep.new (S := []) (o := .lst [.str nm]) h2
      refine ⟨nl, c2, _, _, rfl, rfl, k2 _ _ (by simp) (k _ _ (by simp) hn9), upd_same, by rw [List.length_map, sizeLine_eq]; show _ + 1 ≤ _; omega, fun c3 h3 => ?_⟩
      have k3 := Keep.new (S := []) (o := .lst (nb.map V.str ++ [.str nm])) h3
      have at0 : atI (nb.map V.str ++ [.str nm]) 0 = some (.str y) := by
        rw [show nb.map V.str ++ [.str nm] = (nb ++ [nm]).map V.str by simp, ey]
        exact atI_nat (j := 0) rfl
      exact ⟨c3, _, 0, .str y, rfl, rfl, upd_same, at0, r _ _ (k2.trans k3) (PS _ _ y8) rfl⟩
    · rw [cut_to _ _ p0, cut_from _ _ p0] at hp
      subst hv
      refine ⟨_, rfl, by show 3 ≤ sizeLine; decide, done _ _ _ _ _ H' k' (PS _ _ gn.2) (TM pv hp) (TW _ k') (badN _ _ _ (nb_dup ?_))⟩
      rcases List.mem_append.mp yin with h | h
      · rw [← List.take_append_drop at_.toNat nb] at h
        exact .inr (List.mem_append.mp h)
      · exact .inl (List.mem_singleton.mp h)
  refine ⟨_, rfl, rfl, _, rfl, ?_⟩
  refine ite2 (fun h3 => ?_) (fun h3 => ?_)
  · refine ⟨_, rfl, ?_⟩
    refine mid (K := K) (al := nl) (i := at_) (j := at_) (Pv := fun v => v = .str nm) rfl rfl (fun H1 R r => ⟨_, rfl, r⟩) (fun H1 R k r => ⟨_, rfl, r _ _ (Keep.refl _) (PS _ _ gn.2) rfl⟩) hn9 (by rw [List.length_map]; omega) (fun p v H' pv hv hp k' => ?_)
    rw [cut_to _ _ p0, cut_from _ _ p0] at hp
    subst hv
    exact ⟨_, rfl, by show 3 ≤ sizeLine; decide, done _ _ _ _ _ H' k' (PS _ _ gn.2) (TM pv hp) (TW _ k') (badN _ _ _ (nb_dup (.inl rfl)))⟩
  refine ⟨_, rfl, rfl, _, rfl, ?_⟩
  refine ite2 (fun h4 => ?_) (fun h4 => ?_)
  · refine ⟨_, rfl, _, rfl, ?_⟩
    refine mid (K := K) (al := wl) (i := pl) (j := pl + 1) (Pv := fun v => arrV nb v = false) rfl rfl (fun H1 R r => ⟨_, rfl, _, _, rfl, rfl, r⟩) (fun H1 R k r => ?_) hw9 (by rw [List.length_map]; omega) (fun p v H' pv hv hp k' => ?_)
    · refine ⟨_, rfl, _, rfl, acc, _, 0, .str wo, rfl, rfl, k _ _ (by simp) e9, atI_nat (j := 0) rfl, by show 2 ≤ sizeLine; decide, fun c2 h2 => ?_⟩
      have k2 := Keep.new (S := []) (o := .lst [.str nm, .str wo]) h2
      rcases tn01 with rfl | rfl
      · exact ⟨_, rfl, c2, _, 0, .str nm, rfl, rfl, upd_same, rfl, r _ _ k2 (PS _ _ gn.2) (arr_no nin)⟩
      · exact ⟨_, rfl, c2, _, 1, .str wo, rfl, rfl, upd_same, rfl, r _ _ k2 (PS _ _ lw) (arr_no nw)⟩
    · rw [cut_to _ _ q0, cut_from _ _ (by omega)] at hp
      exact ⟨by show 3 ≤ sizeLine; decide, done _ _ _ _ _ H' k' (PS _ _ gn.2) (TN _ k') (TA pv hp) (badW _ (ars_badx (by simp) hv))⟩
  refine ⟨_, rfl, rfl, _, rfl, ?_⟩
  refine ite2 (fun h5 => ?_) (fun h5 => ?_)
  · refine ⟨_, rfl, _, rfl, ?_⟩
    have tno : arrV nb th = false := by
      show (decide (th = .non) || (nameV th && _)) = false
      rw [decide_eq_false od.nn, od.nm]; rfl
    refine mid (K := K) (al := wl) (i := pl) (j := pl + 1) (Pv := fun v => arrV nb v = false) rfl rfl (fun H1 R r => ⟨_, rfl, _, _, rfl, rfl, r⟩) (fun H1 R k r => ⟨_, rfl, r _ _ (Keep.refl _) (pth.on k) tno⟩) hw9 (by rw [List.length_map]; omega) (fun p v H' pv hv hp k' => ?_)
    rw [cut_to _ _ q0, cut_from _ _ (by omega)] at hp
    exact ⟨by show 3 ≤ sizeLine; decide, done _ _ _ _ _ H' k' (PS _ _ gn.2) (TN _ k') (TA pv hp) (badW _ (ars_badx (by simp) hv))⟩
  refine ⟨_, rfl, rfl, _, rfl, ?_⟩
  refine ite2 (fun h6 => ?_) (fun h6 => ?_)
  · refine ⟨_, rfl, _, rfl, Nat.zero_le _, fun c1 h1 => ?_⟩
    have k1 := Keep.new (S := []) (o := .lst []) h1
    refine ⟨_, rfl, wl, _, rfl, .inl ⟨.of (k1 _ _ (by simp) hw9), fun c2 h2 => ?_⟩⟩
    have k2 := Keep.new (S := []) (o := .tup (ars.map optV)) h2
    refine ⟨by show 2 ≤ sizeLine; decide, fun c3 h3 => ?_⟩
    have k3 := Keep.new (S := []) (o := .lst [.ref c1, .ref c2]) h3
    have k' := (k1.trans k2).trans k3
    rcases tn01 with rfl | rfl
    · exact ⟨_, rfl, c3, _, 0, .ref c1, rfl, rfl, upd_same, rfl, by show 3 ≤ sizeLine; decide, done _ _ _ _ (some []) _ k' (PS _ _ gn.2) (TN _ k') ⟨c1, rfl, k3 _ _ (by simp) (k2 _ _ (by simp) upd_same), (fun v hv => by cases hv), by simp⟩ (badW _ rfl)⟩
    · exact ⟨_, rfl, c3, _, 1, .ref c2, rfl, rfl, upd_same, rfl, by show 3 ≤ sizeLine; decide, done _ _ _ _ none _ k' (PS _ _ gn.2) (TN _ k') ⟨_, .tup (k3 _ _ (by simp) upd_same), by decide⟩ (badW _ rfl)⟩
  refine ⟨_, rfl, rfl, _, rfl, ?_⟩
  refine ite2 (fun h7 => ?_) (fun h7 => ?_)
  · refine ⟨_, rfl, _, rfl, _, rfl, nl, _, rfl, .inl ⟨.of hn9, fun c2 h2 => ?_⟩⟩
    have k2 := Keep.new (S := []) (o := .tup (nb.map V.str)) h2
    refine ⟨by show 2 ≤ sizeLine; decide, fun c3 h3 => ?_⟩
    have k3 := Keep.new (S := []) (o := .lst [ov, .ref c2]) h3
    have k' := k2.trans k3
    rcases tn01 with rfl | rfl
    · exact ⟨_, rfl, c3, _, 0, ov, rfl, rfl, upd_same, rfl, _, rfl, by show 3 ≤ sizeLine; decide, done _ _ _ none _ _ k' (PS _ _ gn.2) (TO _ k') (TW _ k') (badN _ _ _ rfl)⟩
    · exact ⟨_, rfl, c3, _, 1, .ref c2, rfl, rfl, upd_same, rfl, _, rfl, by show 3 ≤ sizeLine; decide, done _ _ _ none _ _ k' (PS _ _ gn.2) ⟨_, .tup (k3 _ _ (by simp) upd_same), by decide⟩ (TW _ k') (badN _ _ _ rfl)⟩
  exact ⟨_, rfl, _, rfl, _, rfl, by show 3 ≤ sizeLine; decide, done _ _ _ _ _ H9 (Keep.refl _) (PS _ _ gn.2) (TN _ (Keep.refl _)) (TO _ (Keep.refl _)) (badW none rfl)⟩
end
end K21
set_option Elab.async false
set_option linter.all false
set_option maxRecDepth 100000
set_option maxHeartbeats 4000000
namespace K21
open PySem L2
noncomputable abbrev sLaw : Stmt := top 45
section
variable {P : Program} {w : World} {K : PySem.W.Frag} {mg : Str → Option Value} {base : Heap} {C CS : Addr}
theorem scL : FnScope ["_law_script", "_law_k", "_law_name", "_law_neighbours", "_law_ways", "_law_askers", "_law_handed", "_law_house", "_law_turn", "_law_told_here", "_law_source", "_law_odd_here", "_law_some", "_law_others"] ["_law_script"] (defScope sLaw) := ⟨rfl, rfl, rfl, by decide +kernel, rfl, by decide +kernel, by decide +kernel⟩
noncomputable def spLaw (K : PySem.W.Frag) : Sp := fun vs H Q _ => ∃ (a : Addr) (ns : List Int), vs = [.ref a] ∧ SqL K H a (ns.map V.int) ∧ ns.length ≤ 63 ∧ ∀ H', Q (.bl true) H'
theorem like_same {H : Hp} {a b : Addr} {xs : List V} (ha : H a = some (.lst xs)) (hb : H b = some (.lst xs)) (hf : ∀ x ∈ xs, flatV x = true) : Like H 3 (.ref a) (.ref b) :=
  .inr ⟨a, b, xs, xs, rfl, rfl, .inl ⟨ha, hb⟩, rfl, fun i u v e1 e2 => by
    rw [e1] at e2
    cases e2
    exact .inl ⟨rfl, .inl (hf u (List.mem_of_getElem? e1))⟩⟩
theorem flat_opts (ars : List (Option Str)) : ∀ x ∈ ars.map optV, flatV x = true := fun x hx => by
  obtain ⟨z, _, rfl⟩ := List.mem_map.mp hx
  cases z <;> rfl
theorem told_alk {H : Hp} {r acc : Addr} {ts us : List (Addr × Addr)} {ars : List (Option Str)} (hr : H r = some (.lst (ts.map fun t => V.ref t.1))) (ha : H acc = some (.lst (us.map fun t => V.ref t.1))) (lt : ts.length = ars.length) (lu : us.length = ars.length) (la : ars.length ≤ 100)
    (h1 : ∀ (j : Nat) (t : Addr × Addr), ts[j]? = some t → H t.1 = some (.lst [optV (ars.getD j none), .ref t.2, .non, .bl false]) ∧ H t.2 = some (.lst []))
    (h2 : ∀ (j : Nat) (t : Addr × Addr), us[j]? = some t → H t.1 = some (.lst [optV (ars.getD j none), .ref t.2, .non, .bl false]) ∧ H t.2 = some (.lst [])) : Alk H 3 (.ref r) (.ref acc) := by
  refine .inr ⟨r, acc, _, _, rfl, rfl, .inl ⟨hr, ha⟩, ?_, by rw [List.length_map]; omega⟩
  have one : ∀ (t u : Addr × Addr) (o : Option Str), H t.1 = some (.lst [optV o, .ref t.2, .non, .bl false]) ∧ H t.2 = some (.lst []) → H u.1 = some (.lst [optV o, .ref u.2, .non, .bl false]) ∧ H u.2 = some (.lst []) → Alk H 2 (.ref t.1) (.ref u.1) := by
    intro t u o ⟨a1, a2⟩ ⟨b1, b2⟩
    refine .inr ⟨t.1, u.1, _, _, rfl, rfl, .inl ⟨a1, b1⟩, .cons (Alk.flat 1 (by cases o <;> rfl)) (.cons (.inr ⟨t.2, u.2, [], [], rfl, rfl, .inl ⟨a2, b2⟩, .nil, by simp⟩) (.cons (Alk.flat 1 rfl) (.cons (Alk.flat 1 rfl) .nil))), by show 4 ≤ 2000; decide⟩
  have go : ∀ (ts us : List (Addr × Addr)) (os : List (Option Str)), ts.length = us.length → (∀ (j : Nat) (t : Addr × Addr), ts[j]? = some t → H t.1 = some (.lst [optV (os.getD j none), .ref t.2, .non, .bl false]) ∧ H t.2 = some (.lst [])) →
      (∀ (j : Nat) (t : Addr × Addr), us[j]? = some t → H t.1 = some (.lst [optV (os.getD j none), .ref t.2, .non, .bl false]) ∧ H t.2 = some (.lst [])) → Paired (Alk H 2) (ts.map fun t => V.ref t.1) (us.map fun t => V.ref t.1) := by
    intro ts
    induction ts with
    | nil =>
      intro us os hl _ _
      cases us with
      | nil => exact .nil
      | cons u us => simp at hl
    | cons t ts ih =>
      intro us os hl a b
      cases us with
      | nil => simp at hl
      | cons u us =>
        refine .cons (one t u _ (a 0 t rfl) (b 0 u rfl)) (ih us os.tail (by simpa using hl) (fun j x hx => ?_) (fun j x hx => ?_))
        · have := a (j + 1) x (by simpa using hx)
          cases os with
          | nil => simpa using this
          | cons o os => simpa using this
        · have := b (j + 1) x (by simpa using hx)
          cases os with
          | nil => simpa using this
          | cons o os => simpa using this
  exact go ts us ars (by omega) h1 h2
theorem okLaw {f : Addr} {fd : FuncData} (T : HouseT K C) (G : Fun K "law" "law" sLaw f fd) (CC : Cal P w K mg base CX0 1 "_law_cell_at" ["_law_script", "_law_k"] (spCell K)) (CD : Cal P w K mg base CX0 1 "_law_digits" ["_law_cell"] spDigits) (CM : Cal P w K mg base CX0 4 "_law_made" ["_law_cell"] spMd) (MH : MkCal P w K mg base CX0 4 C "House" ["self", "name", "neighbours", "arrows"] (spHI K C CS)) (CT : Cal P w K mg base CX0 4 "_law_told" ["_law_house", "_law_many"] (spTo C CS)) (CA : Cal P w K mg base CX0 4 "_law_alike" ["_law_found", "_law_due"] (spAl 4))
    (MAs : MCal P w K mg base CX0 2 C "askers" ["self"] (spHAs0 C CS)) (CW : Cal P w K mg base CX0 4 "_law_wrong" ["_law_source", "_law_name", "_law_neighbours", "_law_ways"] (spWr K)) (CR : Cal P w K mg base CX0 6 "_law_refusal" ["_law_name", "_law_neighbours", "_law_ways"] (spRe K)) (b_len : Blt mg "len") (b_range : Blt mg "range") (b_min : Blt mg "min") (b_list : Blt mg "list") : FnOk P w K mg base CX0 7 f fd ["_law_script"] (spLaw K) := by
  refine G.ok scL (fun vs H Q E h => by obtain ⟨a, ns, rfl, _⟩ := h; rfl) (fun cdv A outer s0 H vs Q E hr h => ?_)
  obtain ⟨a, ns, rfl, hS, hlen, fin⟩ := h
  have hr1 : Room 1 _ := hr.mono (by decide)
  have hr2 : Room 2 _ := hr.mono (by decide)
  have hr4 : Room 4 _ := hr.mono (by decide)
  have hr5 : Room 5 _ := hr.mono (by decide)
  have hr6 : Room 6 _ := hr
  have hu4' := hu4 hr
  refine ⟨_, (pss_cons (ps_for PassesOwn.never rfl (pi_range1 rfl b_range.no (pa_cons (pe_op op_add pe_int (pe_blt (call_min2 rfl) b_min bo_min (pa_cons pe_int (pa_cons (pe_op op_fdivB (pe_blt call_len b_len bo_len (pa_cons (pv 0) pa_nil)) pe_int) pa_nil)))) pa_nil)) (pg_name (i := 1) scL.nd rfl (Or.inl rfl)) (pss_cons (ps_asg (pe_cal CM hr4 (pa_cons (pe_cal CC hr1 (pa_cons (pv 0) (pa_cons (pe_op op_mul pe_int (pv 1)) pa_nil))) pa_nil)) (pg_tup rfl (pgs_cons (pg_name (i := 2) scL.nd rfl (Or.inl rfl)) (pgs_cons (pg_name (i := 3) scL.nd rfl (Or.inl rfl)) (pgs_cons (pg_name (i := 4) scL.nd rfl (Or.inl rfl)) (pgs_cons (pg_name (i := 5) scL.nd rfl (Or.inl rfl)) pgs_nil))))))
      (pss_cons (ps_set (i := 6) scL.nd rfl (Or.inl rfl) (pe_lst (pa_cons (pe_callTy call_list_of rfl b_list.no bo_list (pa_cons (pv 3) pa_nil)) (pa_cons (pe_callTy call_list_of rfl b_list.no bo_list (pa_cons (pv 4) pa_nil)) pa_nil))))
      (pss_cons (ps_set (i := 7) scL.nd rfl (Or.inl rfl) (pe_mk MH hr5 (pa_cons (pv 2) (pa_cons (pe_ix ix_lstH (pv 6) pe_int (fun _ _ => rfl)) (pa_cons (pe_ix ix_lstH (pv 6) pe_int (fun _ _ => rfl)) pa_nil)))))
      (pss_cons (ps_if (pt_cmpR (op_neL hu4') (pv 6) (pe_lst (pa_cons (pv 3) (pa_cons (pv 4) pa_nil))) (nomark _)) (pss_one (ps_ret pe_bl)) pss_nil)
      (pss_cons (ps_expr (pe_bm PySem.F.plainAttrs_list PySem.F.slot_list_append PySem.F.type_list_append mt_append (pe_ix ix_lstH (pv 6) pe_int (fun _ _ => rfl)) (pa_cons pe_str pa_nil)))
      (pss_cons (ps_expr (pe_bm0 PySem.F.plainAttrs_list PySem.F.slot_list_clear PySem.F.type_list_clear mt_clear (pe_ix ix_lstH (pv 6) pe_int (fun _ _ => rfl))))
      (pss_cons (ps_for PassesOwn.never rfl (pi_range1 rfl b_range.no (pa_cons pe_int pa_nil)) (pg_name (i := 8) scL.nd rfl (Or.inl rfl)) (pss_cons (ps_set (i := 9) scL.nd rfl (Or.inl rfl) (pe_cal CT hr4 (pa_cons (pv 7) (pa_cons (pe_blt call_len b_len bo_len (pa_cons (pv 4) pa_nil)) pa_nil))))
      (pss_cons (ps_if (PW.pt (pw_or (pt_not (pt_val (pe_cal CA hr4 (pa_cons (pv 9) (pa_cons (pe_lc1 (N := ["_law_script", "_law_k", "_law_name", "_law_neighbours", "_law_ways", "_law_askers", "_law_handed", "_law_house", "_law_turn", "_law_told_here", "_law_source", "_law_odd_here", "_law_some", "_law_others"]) (sc := defScope sLaw) (ix := []) (by decide +kernel) (pi_list (pv 4)) (fun _ _ _ _ => pts_nil) (fun _ _ _ _ => (pe_lst (pa_cons (pv 0) (pa_cons (pe_lst pa_nil) (pa_cons pe_non (pa_cons pe_bl pa_nil))))))) pa_nil))))) (pw_or1 (pt_cmpR (op_neL hu4') (pe_mth0 MAs T.cl hr2 (pv 7)) (pe_lst pa_nil) (nomark _))))) (pss_one (ps_ret pe_bl)) pss_nil)
      (pss_cons (ps_expr (pe_bm PySem.F.plainAttrs_list PySem.F.slot_list_append PySem.F.type_list_append mt_append (pe_ix ix_lstH (pe_ix ix_lstH (pv 9) pe_int (fun _ _ => rfl)) pe_int (fun _ _ => rfl)) (pa_cons (pe_tup (pa_cons pe_str (pa_cons pe_str pa_nil))) pa_nil)))
      (pss_one (ps_expr (pe_bm PySem.F.plainAttrs_list PySem.F.slot_list_append PySem.F.type_list_append mt_append (pe_mth0 MAs T.cl hr2 (pv 7)) (pa_cons (pe_tup (pa_cons pe_str (pa_cons pe_int (pa_cons pe_bl pa_nil)))) pa_nil))))))))
      (pss_cons (ps_set (i := 10) scL.nd rfl (Or.inl rfl) (pe_cal CD hr1 (pa_cons (pe_cal CC hr1 (pa_cons (pv 0) (pa_cons (pe_op op_add (pe_op op_mul pe_int (pv 1)) pe_int) pa_nil))) pa_nil)))
      (pss_cons (ps_asg (pe_cal CW hr4 (pa_cons (pv 10) (pa_cons (pv 2) (pa_cons (pv 3) (pa_cons (pv 4) pa_nil))))) (pg_tup rfl (pgs_cons (pg_name (i := 11) scL.nd rfl (Or.inl rfl)) (pgs_cons (pg_name (i := 12) scL.nd rfl (Or.inl rfl)) (pgs_cons (pg_name (i := 13) scL.nd rfl (Or.inl rfl)) pgs_nil)))))
      (pss_one (ps_if (pt_cmpR op_ne (pe_cal CR hr6 (pa_cons (pv 11) (pa_cons (pv 12) (pa_cons (pv 13) pa_nil)))) pe_str (nomark _)) (pss_one (ps_ret pe_bl)) pss_nil))))))))))))
      (pss_one (ps_ret pe_bl))), ?_⟩
  refine ⟨_, rfl, _, _, rfl, .inl ⟨_, hS, rfl⟩, _, _, rfl, rfl, ?_⟩
  refine ⟨(by show (0 : Int) < 2 ∧ (2 : Int) < 2 ^ 62; decide), _, _, rfl, _, _, rfl, rfl, _, rfl, ?_, ?_, for_range (fun i σ H1 => ∃ (v1 v2 v3 v4 v5 v6 v7 v8 v9 v10 v11 v12 v13 : Option V), σ = [some (.ref a), v1, v2, v3, v4, v5, v6, v7, v8, v9, v10, v11, v12, v13] ∧ Keep [] H H1) ⟨none, none, none, none, none, none, none, none, none, none, none, none, none, rfl, Keep.refl _⟩ ?_ ?_⟩
  · split <;> omega
  · split <;> omega
  · rintro i σ H1 hi ⟨v1, v2, v3, v4, v5, v6, v7, v8, v9, v10, v11, v12, v13, rfl, k1⟩
    have i64 : i ≤ 64 := by
      revert hi
      split <;> omega
    refine ⟨_, rfl, _, rfl, _, _, rfl, rfl, by unfold CMul; omega, a, ns, _, rfl, k1.seq hS, by omega, fun v => ?_⟩
    refine ⟨v, rfl, fun t nl wl al nm nb ars H2 et en ew hnl hwl nlw gn gnb nd nin ln ne la sub k2 => ?_⟩
    refine ⟨t, _, rfl, .of et, rfl, _, _, rfl, _, _, rfl, _, _, rfl, _, _, rfl, rfl, ?_⟩
    refine ⟨_, rfl, nl, _, rfl, .inl (.of en), fun h0 hh0 => ?_⟩
    have k3 := Keep.new (S := []) (o := .lst (nb.map V.str)) hh0
    have e30 : upd H2 h0 (.lst (nb.map V.str)) h0 = some (.lst (nb.map V.str)) := upd_same
    generalize upd H2 h0 (.lst (nb.map V.str)) = H3 at k3 e30 ⊢
    refine ⟨_, rfl, wl, _, rfl, .inl (.of (k3 _ _ (by simp) ew)), fun h1 hh1 => ?_⟩
    have k4 := Keep.new (S := []) (o := .lst (ars.map optV)) hh1
    have e41 : upd H3 h1 (.lst (ars.map optV)) h1 = some (.lst (ars.map optV)) := upd_same
    have h01 : h0 ≠ h1 := ne_of_none e30 hh1
    generalize upd H3 h1 (.lst (ars.map optV)) = H4 at k4 e41 ⊢
    refine ⟨by show 2 ≤ sizeLine; decide, fun hd hhd => ?_⟩
    have k5 := Keep.new (S := []) (o := .lst [.ref h0, .ref h1]) hhd
    have e5 : upd H4 hd (.lst [.ref h0, .ref h1]) hd = some (.lst [.ref h0, .ref h1]) := upd_same
    have e50 := k5 _ _ (by simp) (k4 _ _ (by simp) e30)
    have e51 := k5 _ _ (by simp) e41
    have hd0 : hd ≠ h0 := Ne.symm (ne_of_none (k4 _ _ (by simp) e30) hhd)
    have hd1 : hd ≠ h1 := Ne.symm (ne_of_none e41 hhd)
    generalize upd H4 hd (.lst [.ref h0, .ref h1]) = H5 at k5 e5 e50 e51 ⊢
    have k25 : Keep [] H2 H5 := (k3.trans k4).trans k5
    refine ⟨_, rfl, _, rfl, hd, _, 0, _, rfl, rfl, e5, rfl, _, rfl, hd, _, 1, _, rfl, rfl, e5, rfl, fun p dx hp hdx npd => ?_⟩
    have kB : Keep [] H5 (upd (upd H5 dx (.own p)) p (.ins C dx [])) := (Keep.new hdx).trans (Keep.new (by rw [upd_ne npd.symm]; exact hp))
    have eB : upd (upd H5 dx (.own p)) p (.ins C dx []) p = some (.ins C dx []) := upd_same
    generalize upd (upd H5 dx (.own p)) p (.ins C dx []) = HB at kB eB ⊢
    have p0 : h0 ≠ p := ne_of_none e50 hp
    have p1 : h1 ≠ p := ne_of_none e51 hp
    have pd : hd ≠ p := ne_of_none e5 hp
    have pn : nl ≠ p := ne_of_none (k25 _ _ (by simp) en) hp
    have pw' : wl ≠ p := ne_of_none (k25 _ _ (by simp) ew) hp
    refine ⟨p, dx, h0, h1, nm, nb, ars, rfl, eB, kB _ _ (by simp) e50, kB _ _ (by simp) e51, gn, gnb, nd, nin, by omega, ne, by omega, sub, fun xs H6 hh k6 => ?_⟩
    have f0 := k6 _ _ (by simp [p0]) (kB _ _ (by simp) e50)
    have f1 := k6 _ _ (by simp [p1]) (kB _ _ (by simp) e51)
    have fd' := k6 _ _ (by simp [pd]) (kB _ _ (by simp) e5)
    have fn := k6 _ _ (by simp [pn]) (kB _ _ (by simp) (k25 _ _ (by simp) en))
    have fw := k6 _ _ (by simp [pw']) (kB _ _ (by simp) (k25 _ _ (by simp) ew))
    refine ⟨rfl, _, rfl, _, rfl, _, rfl, by show 2 ≤ sizeLine; decide, fun q hq => ?_⟩
    have k7 := Keep.new (S := []) (o := .lst [.ref nl, .ref wl]) hq
    refine ⟨hd, q, _, _, rfl, rfl, k7 _ _ (by simp) fd', upd_same, rfl, ?_, _, rfl, ?_⟩
    · intro j u v e1 e2
      match j, e1, e2 with
      | 0, e1, e2 =>
        cases e1; cases e2
        exact like_same (k7 _ _ (by simp) f0) (k7 _ _ (by simp) fn) (List.all_eq_true.mp (flat_strs nb))
      | 1, e1, e2 =>
        cases e1; cases e2
        exact like_same (k7 _ _ (by simp) f1) (k7 _ _ (by simp) fw) (flat_opts ars)
      | j + 2, e1, e2 => cases e1
    generalize upd H6 q (.lst [.ref nl, .ref wl]) = H7 at k7 ⊢
    refine ifF rfl ?_
    have g0 := k7 _ _ (by simp) f0
    have g1 := k7 _ _ (by simp) f1
    have gd := k7 _ _ (by simp) fd'
    refine ⟨_, rfl, hd, _, 0, _, rfl, rfl, gd, rfl, Or.inl ⟨rfl, _, .of g0⟩, h0, _, _, rfl, rfl, g0, by rw [List.length_map, sizeLine_eq]; omega, ?_⟩
    have k8 : Keep [h0, h1] H7 (upd H7 h0 (.lst (nb.map V.str ++ [.str "zz"]))) := Keep.at (by simp)
    have gd8 := k8 _ _ (by simp [hd0, hd1]) gd
    have g18 : upd H7 h0 (.lst (nb.map V.str ++ [.str "zz"])) h1 = some (.lst (ars.map optV)) := by rw [upd_ne h01.symm]; exact g1
    generalize upd H7 h0 _ = H8 at k8 gd8 g18 ⊢
    refine ⟨_, rfl, hd, _, 1, _, rfl, rfl, gd8, rfl, Or.inl ⟨rfl, _, .of g18⟩, h1, _, rfl, rfl, g18, ?_⟩
    have k9 : Keep [h0, h1] H8 (upd H8 h1 (.lst [])) := Keep.at (by simp)
    generalize upd H8 h1 _ = H9 at k9 ⊢
    have k79 := k8.trans k9
    have hh9 : HouseAt HB C CS H9 p nm nb xs (freshS ars) := (hh.on k7).keep k79 (fun b hb => by
      simp only [List.mem_cons, List.not_mem_nil, or_false] at hb
      rcases hb with rfl | rfl
      · exact ⟨p0, (by rw [kB _ _ (by simp) e50]; nofun), fun ys e => by rw [g0] at e; cases e⟩
      · exact ⟨p1, (by rw [kB _ _ (by simp) e51]; nofun), fun ys e => by rw [g1] at e; cases e⟩)
    have n0 : H2 h0 = none := hh0
    have n1 : H2 h1 = none := k3.none (by simp) hh1
    have np : H2 p = none := k25.none (by simp) hp
    have k29 : Keep [] H2 H9 := fun b o _ ho => by
      have b0 : b ≠ h0 := ne_of_none ho n0
      have b1 : b ≠ h1 := ne_of_none ho n1
      have bp : b ≠ p := ne_of_none ho np
      exact k79 _ _ (by simp [b0, b1]) (k7 _ _ (by simp) (k6 _ _ (by simp [bp]) (kB _ _ (by simp) (k25 _ _ (by simp) ho))))
    have en9 := k29 _ _ (by simp) en
    have ew9 := k29 _ _ (by simp) ew
    refine ⟨_, rfl, by decide, by decide, for_range (fun j σ H' => ∃ (v8 v9 : Option V), σ = [some (.ref a), some (.int (0 + (i : Int))), some (.str nm), some (.ref nl), some (.ref wl), some (.ref al), some (.ref hd), some (.ref p), v8, v9, v10, v11, v12, v13] ∧ HouseAt HB C CS H' p nm nb xs (freshS ars) ∧ Keep [] H9 H') ⟨_, _, rfl, hh9, Keep.refl _⟩ ?_ ?_⟩
    · rintro j σ H10 hj ⟨v8, v9, rfl, hh10, k10⟩
      have ew10 := k10 _ _ (by simp) ew9
      refine ⟨_, rfl, _, rfl, _, _, rfl, .inl ⟨_, .of ew10, rfl⟩, HB, p, nm, nb, xs, ars, (by rw [List.length_map]; rfl), hh10, by omega, fun r ts H11 hr' lts er each k11 => ?_⟩
      have ew11 := k11 _ _ (by simp) ew10
      refine ⟨_, rfl, _, rfl, wl, rfl, ⟨_, .of ew11⟩, fun acc hacc => ?_⟩
      have wa : wl ≠ acc := ne_of_none ew11 hacc
      refine lc_list0 (K := K) (its := ars.map optV) (by rw [List.length_map, sizeLine_eq]; omega) (fun i' ys τ H' => ∃ (us : List (Addr × Addr)) (kk : Option V), τ = [kk] ∧ ys = us.map (fun t => V.ref t.1) ∧ us.length = i' ∧ (∀ (j : Nat) (t : Addr × Addr), us[j]? = some t → H' t.1 = some (.lst [optV (ars.getD j none), .ref t.2, .non, .bl false]) ∧ H' t.2 = some (.lst []) ∧ t.1 ≠ acc ∧ t.2 ≠ acc) ∧ Keep [acc] H11 H' ∧ H' acc = some (.lst ys)) ?_ ?_ ?_ ?_
      · exact ⟨[], none, rfl, rfl, rfl, (fun j t e => by simp at e), Keep.at (by simp), upd_same⟩
      · rintro i' ys τ H' ⟨us, kk, rfl, rfl, hl, ea, kp, h⟩
        exact ⟨h, by rw [List.length_map]; omega, .of (kp _ _ (by simp [wa]) ew11)⟩
      · rintro i' ys τ H' x hx ⟨us, kk, rfl, rfl, hl, ea, kp, h⟩
        have ex : x = optV (ars.getD i' none) := by
          rw [List.getElem?_map] at hx
          cases e : ars[i']? with
          | none => rw [e] at hx; cases hx
          | some o => rw [e] at hx; rw [List.getD_eq_getElem?_getD, e]; exact (Option.some.inj hx).symm
        subst ex
        refine ⟨_, rfl, Nat.zero_le _, fun e he => ⟨by show 4 ≤ sizeLine; decide, fun u hu => ?_⟩⟩
        have ke := Keep.new (S := []) (o := .lst []) he
        have ku := Keep.new (S := []) (o := .lst [optV (ars.getD i' none), .ref e, .non, .bl false]) hu
        have ke0 : upd H' e (.lst []) e = some (.lst []) := upd_same
        have ea' : e ≠ acc := Ne.symm (ne_of_none h he)
        have ua : u ≠ acc := Ne.symm (ne_of_none (ke _ _ (by simp) h) hu)
        have kk2 := ke.trans ku
        have eu : upd (upd H' e (.lst [])) u (.lst [optV (ars.getD i' none), .ref e, .non, .bl false]) u = some (.lst [optV (ars.getD i' none), .ref e, .non, .bl false]) := upd_same
        have ee := ku _ _ (by simp) ke0
        generalize upd (upd H' e (.lst [])) u (.lst [optV (ars.getD i' none), .ref e, .non, .bl false]) = H'' at kk2 eu ee ⊢
        have kf : Keep [acc] H'' (upd H'' acc (.lst (us.map (fun t => V.ref t.1) ++ [.ref u]))) := Keep.at (by simp)
        refine ⟨kk2 _ _ (by simp) h, us ++ [(u, e)], _, rfl, by simp, by simp [hl], fun j t hj => ?_, (kp.trans (kk2.mono (by simp))).trans kf, upd_same⟩
        by_cases jl : j < us.length
        · rw [List.getElem?_append_left jl] at hj
          obtain ⟨a1, a2, a3, a4⟩ := ea j t hj
          exact ⟨kf _ _ (by simp [a3]) (kk2 _ _ (by simp) a1), kf _ _ (by simp [a4]) (kk2 _ _ (by simp) a2), a3, a4⟩
        · rw [List.getElem?_append_right (by omega)] at hj
          have ej : j = i' := by
            have := (List.getElem?_eq_some_iff.mp hj).1
            simp at this; omega
          subst ej
          rw [hl, Nat.sub_self] at hj
          cases hj
          exact ⟨kf _ _ (by simp [ua]) eu, kf _ _ (by simp [ea']) ee, ua, ea'⟩
      rintro ys τ H12 ⟨us, kk, rfl, rfl, hl, ea, kp, h12⟩
      have k12 : Keep [] H11 H12 := kp.drop hacc
      rw [List.length_map] at hl
      refine ⟨_, _, rfl, told_alk (k12 _ _ (by simp) er) h12 lts hl (by omega) (fun j t hj => ⟨k12 _ _ (by simp) (each j t hj).1, k12 _ _ (by simp) (each j t hj).2.1⟩) (fun j t hj => ⟨(ea j t hj).1, (ea j t hj).2.1⟩), fun H13 k13 => ?_⟩
      refine ⟨_, rfl, ?_⟩
      refine ifF rfl ?_
      have k113 := k12.trans k13
      have k1013 := k11.trans k113
      have hh13 := hh10.on k1013
      obtain ⟨dx', nl', sl', _, hp13, _⟩ := id hh13
      refine ⟨_, rfl, p, dx', _, rfl, hp13, hl_as _ _ _, HB, p, nm, nb, xs, ars, rfl, hh13, by omega, fun l H14 hl' el k14 => ?_⟩
      refine ⟨Nat.zero_le _, fun e he => ?_⟩
      have ke := Keep.new (S := []) (o := .lst []) he
      refine ⟨l, e, [], [], rfl, rfl, ke _ _ (by simp) el, upd_same, rfl, (fun i u v e1 => by simp at e1), _, rfl, ?_⟩
      generalize upd H14 e (.lst []) = H15 at ke ⊢
      refine ifF rfl ?_
      have k1115 := (k113.trans k14).trans ke
      obtain ⟨t0, ts', ets⟩ : ∃ t0 ts', ts = t0 :: ts' := by
        cases ts with
        | nil => exact absurd (List.length_eq_zero_iff.mp lts.symm) ne
        | cons x l => exact ⟨x, l, rfl⟩
      obtain ⟨a1, a2, a3, a4⟩ := each 0 t0 (by rw [ets]; rfl)
      refine ⟨_, rfl, r, _, 0, .ref t0.1, rfl, rfl, k1115 _ _ (by simp) er, atI_nat (j := 0) (by rw [ets]; rfl), t0.1, _, 1, .ref t0.2, rfl, rfl, k1115 _ _ (by simp) a1, rfl, Or.inl ⟨rfl, _, .of (k1115 _ _ (by simp) a2)⟩, by show 2 ≤ sizeLine; decide, fun tt htt => ?_⟩
      have kt := Keep.new (S := []) (o := .tup [.str "asker", .str "a"]) htt
      refine ⟨t0.2, _, _, rfl, rfl, kt _ _ (by simp) (k1115 _ _ (by simp) a2), by rw [sizeLine_eq]; show 0 < _; omega, ?_⟩
      have k16 : Keep [] H10 (upd (upd H15 tt (.tup [.str "asker", .str "a"])) t0.2 (.lst ([] ++ [.ref tt]))) := (((k11.trans k1115).trans kt).mono (S' := [t0.2]) (by simp) |>.trans (Keep.at (by simp))).drop a4
      generalize upd (upd H15 tt (.tup [.str "asker", .str "a"])) t0.2 (.lst ([] ++ [.ref tt])) = H16 at k16 ⊢
      have hh16 := hh10.on k16
      obtain ⟨dx2, nl2, sl2, _, hp16, _⟩ := id hh16
      refine ⟨_, rfl, p, dx2, _, rfl, hp16, hl_as _ _ _, HB, p, nm, nb, xs, ars, rfl, hh16, by omega, fun l2 H17 hl2 el2 k17 => ?_⟩
      refine ⟨Or.inl ⟨rfl, _, .of el2⟩, by show 3 ≤ sizeLine; decide, fun t3 ht3 => ?_⟩
      have kt3 := Keep.new (S := []) (o := .tup [.str "a", .int 0, .bl true]) ht3
      refine ⟨l2, _, _, rfl, rfl, kt3 _ _ (by simp) el2, by rw [sizeLine_eq]; show 0 < _; omega, ?_⟩
      have k18 : Keep [] H16 (upd (upd H17 t3 (.tup [.str "a", .int 0, .bl true])) l2 (.lst ([] ++ [.ref t3]))) := ((k17.trans kt3).mono (S' := [l2]) (by simp) |>.trans (Keep.at (by simp))).drop hl2
      exact ⟨_, _, rfl, hh16.on k18, (k10.trans k16).trans k18⟩
    · rintro σ H10 ⟨v8, v9, rfl, hh10, k10⟩
      have k010 := ((k1.trans k2).trans k29).trans k10
      refine ⟨_, rfl, _, rfl, _, _, rfl, rfl, by unfold CMul; omega, _, _, rfl, rfl, a, ns, _, rfl, k010.seq hS, by omega, fun v2 => ⟨v2, rfl, fun s b1 c1 e1 hs => ?_⟩⟩
      have ks := Keep.new (S := []) (o := .lst [.int b1, .int c1, .int e1]) hs
      refine ⟨_, rfl, _, rfl, _, rfl, _, rfl, s, nl, wl, nm, nb, ars, rfl, ⟨b1, c1, e1, upd_same⟩, ks _ _ (by simp) (k10 _ _ (by simp) en9), ks _ _ (by simp) (k10 _ _ (by simp) ew9), gn, gnb, nd, nin, ln, ne, la, sub, fun t2 x y z o1 o2 H12 et2 px ty tz bad k12 => ?_⟩
      refine ⟨t2, _, rfl, .of et2, rfl, _, _, rfl, _, _, rfl, _, _, rfl, rfl, ?_⟩
      refine ⟨_, rfl, _, rfl, _, rfl, x, y, z, o1, o2, rfl, px, ty, tz, bad, fun H13 k13 => ?_⟩
      refine ⟨rfl, _, rfl, ?_⟩
      refine ifF (by decide +kernel) ?_
      exact ⟨_, _, _, _, _, _, _, _, _, _, _, _, _, rfl, k010.trans (((ks.mono (by simp)).trans k12 |>.trans (k13.mono (by simp))).drop hs)⟩
  · rintro σ H1 ⟨v1, v2, v3, v4, v5, v6, v7, v8, v9, v10, v11, v12, v13, rfl, k1⟩
    exact fin _
end
end K21
section
open PySem PySem.W PyProof.Rows
set_option Elab.async false
set_option linter.all false
set_option maxRecDepth 100000
set_option maxHeartbeats 0
noncomputable section
namespace HD
open PySem PySem.W L2
variable (P : Params)
noncomputable def tp (i : Nat) : Stmt := PySem.Challenge.pw_treeright_k21_houses_made.main.body.getD i (.Pass ⟨0, 0, 0, 0⟩)
noncomputable def ic (i j : Nat) : Stmt := inClass (tp i) j
noncomputable abbrev N := @BT.node
noncomputable abbrev L := BT.nil
noncomputable def en (P : Params) (k : Str) (t : Nat) (v : Value) : DictEntry := ⟨PyData.keyHash P k, .str k t, v⟩
noncomputable def h0 (a0 : Str) (a1 : Str) (a2 : Stmt) : Obj := ⟨.none, none, (Data.func ⟨a0, a1, (defArgs a2), (FuncBody.stmts (defBody a2)), (defScope a2), 0, [], .none, .none, .none, .none, none, .none, .none, 0⟩), #[]⟩
noncomputable def o0 : Obj := h0 "are_unlike" "are_unlike" (tp 22)
noncomputable def o1 : Obj := h0 "inside" "Seat.inside" (ic 25 3)
noncomputable def o16 : Obj := h0 "twin" "Seat.twin" (ic 25 7)
noncomputable def o17 : Obj := h0 "ask" "House.ask" (ic 31 4)
noncomputable def o19 : Obj := h0 "want" "Seat.want" (ic 25 10)
noncomputable def o26 : Obj := h0 "twin" "House.twin" (ic 31 12)
noncomputable def o29 : Obj := h0 "want" "House.want" (ic 31 1)
noncomputable def o32 : Obj := h0 "settle" "Seat.settle" (ic 25 9)
noncomputable def o33 : Obj := h0 "check_letter" "House.check_letter" (ic 31 18)
noncomputable def o36 : Obj := h0 "_law_wrong" "_law_wrong" (tp 43)
noncomputable def o48 : Obj := h0 "arrow" "House.arrow" (ic 31 7)
noncomputable def o50 : Obj := h0 "arrow" "Seat.arrow" (ic 25 1)
noncomputable def o67 : Obj := h0 "done" "House.done" (ic 31 3)
noncomputable def o77 : Obj := h0 "_law_names" "_law_names" (tp 37)
noncomputable def o79 : Obj := h0 "law" "law" (tp 45)
noncomputable def o81 : Obj := h0 "has_asked" "House.has_asked" (ic 31 10)
noncomputable def o86 : Obj := h0 "leave" "House.leave" (ic 31 2)
noncomputable def o91 : Obj := h0 "_law_alike" "_law_alike" (tp 40)
noncomputable def o103 : Obj := h0 "numbered" "numbered" (tp 30)
noncomputable def o116 : Obj := h0 "has_asked" "Seat.has_asked" (ic 25 4)
noncomputable def o124 : Obj := h0 "come" "Seat.come" (ic 25 14)
noncomputable def o127 : Obj := h0 "_law_digits" "_law_digits" (tp 35)
noncomputable def o128 : Obj := h0 "ask" "Seat.ask" (ic 25 13)
noncomputable def o130 : Obj := h0 "_law_told" "_law_told" (tp 41)
noncomputable def o132 : Obj := h0 "askers" "Seat.askers" (ic 25 5)
noncomputable def o134 : Obj := h0 "askers" "House.askers" (ic 31 6)
noncomputable def o135 : Obj := h0 "row" "Seat.row" (ic 25 2)
noncomputable def o137 : Obj := h0 "check_house" "check_house" (tp 24)
noncomputable def o138 : Obj := h0 "row" "House.row" (ic 31 8)
noncomputable def o142 : Obj := h0 "_law_refusal" "_law_refusal" (tp 44)
noncomputable def o164 : Obj := h0 "come" "House.come" (ic 31 5)
noncomputable def o177 : Obj := h0 "are_names" "are_names" (tp 21)
noncomputable def o178 : Obj := h0 "_law_next" "_law_next" (tp 36)
noncomputable def o180 : Obj := h0 "crowd" "Seat.crowd" (ic 25 6)
noncomputable def o188 : Obj := h0 "are_neighbours" "are_neighbours" (tp 27)
noncomputable def o189 : Obj := h0 "rights_wanted" "House.rights_wanted" (ic 31 15)
noncomputable def o190 : Obj := h0 "done" "Seat.done" (ic 25 12)
noncomputable def o205 : Obj := h0 "_law_mixed" "_law_mixed" (tp 34)
noncomputable def o227 : Obj := h0 "is_whole" "is_whole" (tp 19)
noncomputable def o233 : Obj := h0 "is_one_of" "is_one_of" (tp 20)
noncomputable def o238 : Obj := h0 "is_name" "is_name" (tp 18)
noncomputable def o254 : Obj := h0 "serve_first" "Seat.serve_first" (ic 25 16)
noncomputable def o272 : Obj := h0 "__init__" "House.__init__" (ic 31 0)
noncomputable def o277 : Obj := h0 "state" "Seat.state" (ic 25 8)
noncomputable def o280 : Obj := h0 "_law_odd" "_law_odd" (tp 38)
noncomputable def o283 : Obj := h0 "settle" "House.settle" (ic 31 14)
noncomputable def o306 : Obj := h0 "inside" "House.inside" (ic 31 9)
noncomputable def o311 : Obj := h0 "leave" "Seat.leave" (ic 25 11)
noncomputable def o314 : Obj := h0 "_law_made" "_law_made" (tp 42)
noncomputable def o331 : Obj := h0 "__init__" "NoText.__init__" (ic 13 0)
noncomputable def o332 : Obj := h0 "best_right" "House.best_right" (ic 31 17)
noncomputable def o338 : Obj := h0 "__init__" "Seat.__init__" (ic 25 0)
noncomputable def o342 : Obj := h0 "_law_kinds" "_law_kinds" (tp 39)
noncomputable def o344 : Obj := h0 "right_of" "House.right_of" (ic 31 16)
noncomputable def o345 : Obj := h0 "_law_cell_at" "_law_cell_at" (tp 33)
noncomputable def o358 : Obj := h0 "move_on" "Seat.move_on" (ic 25 15)
noncomputable def o361 : Obj := h0 "check_right" "check_right" (tp 29)
noncomputable def o373 : Obj := h0 "state" "House.state" (ic 31 13)
noncomputable def o389 : Obj := h0 "move_on" "House.move_on" (ic 31 11)
noncomputable def o390 : Obj := h0 "are_arrows" "are_arrows" (tp 28)
noncomputable def o404 : Obj := h0 "_wall" "_wall" (tp 0)
noncomputable def o2 : Obj := ⟨(.type "tuple"), none, (Data.seq #[] 0), #[]⟩
noncomputable def h1 (a0 : Str) (a1 : Str) (a2 : Stmt) (a3 : Str) (a4 : Nat) (a5 : Nat) : Obj := ⟨(.type "function"), none, (Data.func ⟨a0, a1, (defArgs a2), (FuncBody.stmts (defBody a2)), (defScope a2), 3, [], .none, .none, .none, (.str a3 a4), none, (.ref a5), .none, 0⟩), #[]⟩
noncomputable def o3 : Obj := h1 "is_one_of" "is_one_of" (tp 20) "treeright.trees" 415 203
noncomputable def o6 : Obj := h1 "done" "House.done" (ic 31 3) "treeright.houses" 617 410
noncomputable def o23 : Obj := h1 "arrow" "Seat.arrow" (ic 25 1) "treeright.seats" 455 243
noncomputable def o28 : Obj := h1 "arrow" "House.arrow" (ic 31 7) "treeright.houses" 617 436
noncomputable def o38 : Obj := h1 "state" "Seat.state" (ic 25 8) "treeright.seats" 455 290
noncomputable def o43 : Obj := h1 "ask" "House.ask" (ic 31 4) "treeright.houses" 617 417
noncomputable def o52 : Obj := h1 "has_asked" "Seat.has_asked" (ic 25 4) "treeright.seats" 455 264
noncomputable def o57 : Obj := h1 "is_whole" "is_whole" (tp 19) "treeright.trees" 415 196
noncomputable def o59 : Obj := h1 "best_right" "House.best_right" (ic 31 17) "treeright.houses" 617 506
noncomputable def o68 : Obj := h1 "__init__" "Seat.__init__" (ic 25 0) "treeright.seats" 455 236
noncomputable def o71 : Obj := h1 "askers" "House.askers" (ic 31 6) "treeright.houses" 617 429
noncomputable def o83 : Obj := h1 "want" "House.want" (ic 31 1) "treeright.houses" 617 396
noncomputable def o89 : Obj := h1 "row" "Seat.row" (ic 25 2) "treeright.seats" 455 250
noncomputable def o97 : Obj := h1 "_law_told" "_law_told" (tp 41) "law_treeright_k21_houses_made" 820 577
noncomputable def o98 : Obj := h1 "check_house" "check_house" (tp 24) "treeright.seats" 455 222
noncomputable def o100 : Obj := h1 "done" "Seat.done" (ic 25 12) "treeright.seats" 455 318
noncomputable def o102 : Obj := h1 "_law_wrong" "_law_wrong" (tp 43) "law_treeright_k21_houses_made" 820 587
noncomputable def o110 : Obj := h1 "check_letter" "House.check_letter" (ic 31 18) "treeright.houses" 617 513
noncomputable def o114 : Obj := h1 "want" "Seat.want" (ic 25 10) "treeright.seats" 455 304
noncomputable def o115 : Obj := h1 "inside" "House.inside" (ic 31 9) "treeright.houses" 617 450
noncomputable def o119 : Obj := h1 "settle" "Seat.settle" (ic 25 9) "treeright.seats" 455 297
noncomputable def o121 : Obj := h1 "has_asked" "House.has_asked" (ic 31 10) "treeright.houses" 617 457
noncomputable def o122 : Obj := h1 "state" "House.state" (ic 31 13) "treeright.houses" 617 478
noncomputable def o129 : Obj := h1 "_law_refusal" "_law_refusal" (tp 44) "law_treeright_k21_houses_made" 820 594
noncomputable def o131 : Obj := h1 "_law_alike" "_law_alike" (tp 40) "law_treeright_k21_houses_made" 820 570
noncomputable def o150 : Obj := h1 "inside" "Seat.inside" (ic 25 3) "treeright.seats" 455 257
noncomputable def o153 : Obj := h1 "askers" "Seat.askers" (ic 25 5) "treeright.seats" 455 269
noncomputable def o155 : Obj := h1 "serve_first" "Seat.serve_first" (ic 25 16) "treeright.seats" 455 346
noncomputable def o157 : Obj := h1 "row" "House.row" (ic 31 8) "treeright.houses" 617 443
noncomputable def o159 : Obj := h1 "are_arrows" "are_arrows" (tp 28) "treeright.houses" 617 365
noncomputable def o161 : Obj := h1 "twin" "Seat.twin" (ic 25 7) "treeright.seats" 455 283
noncomputable def o166 : Obj := h1 "__init__" "House.__init__" (ic 31 0) "treeright.houses" 617 389
noncomputable def o185 : Obj := h1 "numbered" "numbered" (tp 30) "treeright.houses" 617 377
noncomputable def o202 : Obj := h1 "_law_next" "_law_next" (tp 36) "law_treeright_k21_houses_made" 820 548
noncomputable def o226 : Obj := h1 "_law_cell_at" "_law_cell_at" (tp 33) "law_treeright_k21_houses_made" 820 527
noncomputable def o249 : Obj := h1 "come" "Seat.come" (ic 25 14) "treeright.seats" 455 332
noncomputable def o251 : Obj := h1 "move_on" "Seat.move_on" (ic 25 15) "treeright.seats" 455 339
noncomputable def o263 : Obj := h1 "_law_made" "_law_made" (tp 42) "law_treeright_k21_houses_made" 820 582
noncomputable def o265 : Obj := h1 "_law_odd" "_law_odd" (tp 38) "law_treeright_k21_houses_made" 820 560
noncomputable def o267 : Obj := h1 "crowd" "Seat.crowd" (ic 25 6) "treeright.seats" 455 276
noncomputable def o287 : Obj := h1 "are_neighbours" "are_neighbours" (tp 27) "treeright.houses" 617 360
noncomputable def o295 : Obj := h1 "check_right" "check_right" (tp 29) "treeright.houses" 617 372
noncomputable def o296 : Obj := h1 "move_on" "House.move_on" (ic 31 11) "treeright.houses" 617 464
noncomputable def o298 : Obj := h1 "leave" "House.leave" (ic 31 2) "treeright.houses" 617 403
noncomputable def o299 : Obj := h1 "_law_digits" "_law_digits" (tp 35) "law_treeright_k21_houses_made" 820 541
noncomputable def o301 : Obj := h1 "rights_wanted" "House.rights_wanted" (ic 31 15) "treeright.houses" 617 492
noncomputable def o302 : Obj := h1 "come" "House.come" (ic 31 5) "treeright.houses" 617 424
noncomputable def o303 : Obj := h1 "_law_mixed" "_law_mixed" (tp 34) "law_treeright_k21_houses_made" 820 534
noncomputable def o308 : Obj := h1 "ask" "Seat.ask" (ic 25 13) "treeright.seats" 455 325
noncomputable def o313 : Obj := h1 "__init__" "NoText.__init__" (ic 13 0) "treeright.errors" 194 167
noncomputable def o320 : Obj := h1 "are_names" "are_names" (tp 21) "treeright.trees" 415 208
noncomputable def o321 : Obj := h1 "settle" "House.settle" (ic 31 14) "treeright.houses" 617 485
noncomputable def o337 : Obj := h1 "_law_names" "_law_names" (tp 37) "law_treeright_k21_houses_made" 820 553
noncomputable def o350 : Obj := h1 "is_name" "is_name" (tp 18) "treeright.trees" 415 189
noncomputable def o352 : Obj := h1 "_wall" "_wall" (tp 0) "__main__" 164 20
noncomputable def o360 : Obj := h1 "are_unlike" "are_unlike" (tp 22) "treeright.trees" 415 215
noncomputable def o367 : Obj := h1 "right_of" "House.right_of" (ic 31 16) "treeright.houses" 617 499
noncomputable def o374 : Obj := h1 "_law_kinds" "_law_kinds" (tp 39) "law_treeright_k21_houses_made" 820 565
noncomputable def o382 : Obj := h1 "leave" "Seat.leave" (ic 25 11) "treeright.seats" 455 311
noncomputable def o384 : Obj := h1 "law" "law" (tp 45) "law_treeright_k21_houses_made" 820 599
noncomputable def o405 : Obj := h1 "twin" "House.twin" (ic 31 12) "treeright.houses" 617 471
noncomputable def h2 (a0 : Str) (a1 : Nat) (a2 : Str) (a3 : Nat) (a4 : Nat) (a5 : Int) (a6 : Int) (a7 : Nat) (a8 : Nat) (a9 : Nat) (a10 : Nat) (a11 : Nat) (a12 : Int) (a13 : Nat) : Obj := ⟨(.type "code"), none, (Data.fields #[(.str a0 a1), (.str a2 a3), (.str "/claim/cut.py" a4), (.int a5 0), (.int a6 0), (.int 0 0), (.int 0 0), (.int 3 0), (.ref a7), (.bool true), (.int 181 0), (.ref a8), .none, (.ref a9), (.ref a10), (.ref a11), (.int a12 0), (.int a5 0), (.str "/claim/cut.py" a13)]), #[]⟩
noncomputable def o4 : Obj := h2 "leave" 674 "House.leave" 675 676 168 2 398 399 400 401 402 679 680
noncomputable def o9 : Obj := h2 "arrow" 715 "House.arrow" 716 717 185 2 431 432 433 434 435 720 721
noncomputable def o13 : Obj := h2 "ask" 690 "House.ask" 691 692 174 3 412 413 414 415 416 696 697
noncomputable def o25 : Obj := h2 "move_on" 747 "House.move_on" 748 749 201 2 459 460 461 462 463 752 753
noncomputable def o40 : Obj := h2 "settle" 539 "Seat.settle" 540 541 88 2 292 293 294 295 296 544 545
noncomputable def o41 : Obj := h2 "row" 491 "Seat.row" 492 493 66 1 245 246 247 248 249 495 496
noncomputable def o49 : Obj := h2 "has_asked" 505 "Seat.has_asked" 506 507 72 1 259 260 261 262 263 509 510
noncomputable def o56 : Obj := h2 "want" 665 "House.want" 666 667 165 3 391 392 393 394 395 671 672
noncomputable def o62 : Obj := h2 "arrow" 484 "Seat.arrow" 485 486 63 1 238 239 240 241 242 488 489
noncomputable def o65 : Obj := h2 "_law_mixed" 830 "_law_mixed" 831 832 231 2 529 530 531 532 533 836 837
noncomputable def o72 : Obj := h2 "__init__" 476 "Seat.__init__" 477 478 55 2 231 232 233 234 235 481 482
noncomputable def o75 : Obj := h2 "check_house" 457 "check_house" 458 459 50 1 217 218 219 220 221 461 462
noncomputable def o78 : Obj := h2 "move_on" 588 "Seat.move_on" 589 590 121 1 334 335 336 337 338 592 593
noncomputable def o93 : Obj := h2 "row" 723 "House.row" 724 725 189 2 438 439 440 441 442 728 729
noncomputable def o94 : Obj := h2 "ask" 571 "Seat.ask" 572 573 100 2 320 321 322 323 324 576 577
noncomputable def o96 : Obj := h2 "state" 532 "Seat.state" 533 534 85 1 285 286 287 288 289 536 537
noncomputable def o106 : Obj := h2 "are_unlike" 448 "are_unlike" 449 450 47 1 210 211 212 213 214 452 453
noncomputable def o126 : Obj := h2 "twin" 525 "Seat.twin" 526 527 82 1 278 279 280 281 282 529 530
noncomputable def o140 : Obj := h2 "crowd" 518 "Seat.crowd" 519 520 79 1 271 272 273 274 275 522 523
noncomputable def o143 : Obj := h2 "rights_wanted" 778 "House.rights_wanted" 779 780 213 1 487 488 489 490 491 782 783
noncomputable def o171 : Obj := h2 "inside" 731 "House.inside" 732 733 193 2 445 446 447 448 449 736 737
noncomputable def o181 : Obj := h2 "come" 699 "House.come" 700 701 178 4 419 420 421 422 423 706 707
noncomputable def o182 : Obj := h2 "is_whole" 427 "is_whole" 428 429 41 1 191 192 193 194 195 431 432
noncomputable def o183 : Obj := h2 "_law_refusal" 907 "_law_refusal" 908 909 318 3 589 590 591 592 593 914 915
noncomputable def o184 : Obj := h2 "_law_next" 846 "_law_next" 847 848 238 2 543 544 545 546 547 852 853
noncomputable def o187 : Obj := h2 "has_asked" 739 "House.has_asked" 740 741 197 2 452 453 454 455 456 744 745
noncomputable def o194 : Obj := h2 "leave" 555 "Seat.leave" 556 557 94 2 306 307 308 309 310 560 561
noncomputable def o195 : Obj := h2 "are_neighbours" 619 "are_neighbours" 620 621 141 2 355 356 357 358 359 624 625
noncomputable def o201 : Obj := h2 "state" 762 "House.state" 763 764 207 1 473 474 475 476 477 766 767
noncomputable def o203 : Obj := h2 "want" 547 "Seat.want" 548 549 91 2 299 300 301 302 303 552 553
noncomputable def o206 : Obj := h2 "best_right" 793 "House.best_right" 794 795 219 1 501 502 503 504 505 797 798
noncomputable def o222 : Obj := h2 "_wall" 187 "_wall" 188 189 1 1 15 16 17 18 19 191 192
noncomputable def o232 : Obj := h2 "done" 682 "House.done" 683 684 171 2 405 406 407 408 409 687 688
noncomputable def o242 : Obj := h2 "__init__" 386 "NoText.__init__" 387 388 29 2 162 163 164 165 166 391 392
noncomputable def o248 : Obj := h2 "settle" 769 "House.settle" 770 771 210 3 480 481 482 483 484 775 776
noncomputable def o259 : Obj := h2 "_law_cell_at" 822 "_law_cell_at" 823 824 227 2 522 523 524 525 526 827 828
noncomputable def o266 : Obj := h2 "twin" 755 "House.twin" 756 757 204 1 466 467 468 469 470 759 760
noncomputable def o273 : Obj := h2 "is_one_of" 434 "is_one_of" 435 436 43 2 198 199 200 201 202 439 440
noncomputable def o285 : Obj := h2 "_law_digits" 839 "_law_digits" 840 841 236 1 536 537 538 539 540 843 844
noncomputable def o304 : Obj := h2 "check_letter" 800 "House.check_letter" 801 802 222 3 508 509 510 511 512 806 807
noncomputable def o329 : Obj := h2 "_law_odd" 861 "_law_odd" 862 863 250 2 555 556 557 558 559 870 871
noncomputable def o356 : Obj := h2 "come" 579 "Seat.come" 580 581 109 3 327 328 329 330 331 585 586
noncomputable def o359 : Obj := h2 "serve_first" 595 "Seat.serve_first" 596 597 131 1 341 342 343 344 345 602 603
noncomputable def o365 : Obj := h2 "done" 563 "Seat.done" 564 565 97 2 313 314 315 316 317 568 569
noncomputable def o370 : Obj := h2 "inside" 498 "Seat.inside" 499 500 69 1 252 253 254 255 256 502 503
noncomputable def o385 : Obj := h2 "check_right" 633 "check_right" 634 635 147 2 367 368 369 370 371 638 639
noncomputable def o388 : Obj := h2 "right_of" 785 "House.right_of" 786 787 216 2 494 495 496 497 498 790 791
noncomputable def o392 : Obj := h2 "_law_told" 885 "_law_told" 886 887 277 2 572 573 574 575 576 892 893
noncomputable def h3 (a0 : Str) (a1 : Nat) (a2 : Str) (a3 : Nat) : Obj := ⟨(.type "tuple"), none, (Data.seq #[(.str a0 a1), (.str a2 a3)] 0), #[]⟩
noncomputable def o5 : Obj := h3 "self" 726 "right" 727
noncomputable def o69 : Obj := h3 "thing" 622 "name" 623
noncomputable def o80 : Obj := h3 "self" 542 "arrow" 543
noncomputable def o151 : Obj := h3 "self" 742 "right" 743
noncomputable def o200 : Obj := h3 "self" 677 "asker" 678
noncomputable def o211 : Obj := h3 "self" 566 "asker" 567
noncomputable def o212 : Obj := h3 "self" 750 "right" 751
noncomputable def o215 : Obj := h3 "self" 558 "asker" 559
noncomputable def o219 : Obj := h3 "self" 479 "arrow" 480
noncomputable def o230 : Obj := h3 "self" 550 "asker" 551
noncomputable def o245 : Obj := h3 "self" 718 "right" 719
noncomputable def o279 : Obj := h3 "self" 685 "asker" 686
noncomputable def o288 : Obj := h3 "_law_script" 825 "_law_k" 826
noncomputable def o333 : Obj := h3 "self" 788 "asker" 789
noncomputable def o335 : Obj := h3 "self" 389 "line" 390
noncomputable def o354 : Obj := h3 "right" 636 "many" 637
noncomputable def o362 : Obj := h3 "self" 734 "right" 735
noncomputable def o387 : Obj := h3 "thing" 437 "houses" 438
noncomputable def o393 : Obj := h3 "self" 574 "house" 575
noncomputable def o7 : Obj := ⟨.none, none, (Data.fields #[]), #[]⟩
noncomputable def o8 : Obj := ⟨.none, none, (Data.fields #[(.int 1 0), (.int 0 0), (.ref 20), (.int 5 0), (.int 0 0), (.ref 27), (.int 7 0), (.int 0 0), (.ref 40)]), #[]⟩
noncomputable def h4 (a0 : Str) (a1 : Nat) (a2 : Str) (a3 : Nat) (a4 : Str) (a5 : Nat) : Obj := ⟨(.type "tuple"), none, (Data.seq #[(.str a0 a1), (.str a2 a3), (.str a4 a5)] 0), #[]⟩
noncomputable def o10 : Obj := h4 "_law_source" 849 "_law_many" 850 "_law_found" 851
noncomputable def o42 : Obj := h4 "self" 668 "asker" 669 "right" 670
noncomputable def o163 : Obj := h4 "_law_cell" 833 "_law_k" 834 "_law_number" 835
noncomputable def o179 : Obj := h4 "name" 809 "nearby" 810 "seats" 811
noncomputable def o199 : Obj := h4 "self" 803 "house" 804 "right" 805
noncomputable def o291 : Obj := h4 "self" 693 "house" 694 "right" 695
noncomputable def o330 : Obj := h4 "self" 772 "neighbours" 773 "arrows" 774
noncomputable def o376 : Obj := h4 "self" 582 "house" 583 "back" 584
noncomputable def h5 (a0 : Nat) : Obj := ⟨(.type "super"), none, (Data.fields #[(.ref a0), (.ref a0), (.ref a0)]), #[]⟩
noncomputable def o11 : Obj := h5 140
noncomputable def o14 : Obj := h5 350
noncomputable def o55 : Obj := h5 171
noncomputable def o74 : Obj := h5 517
noncomputable def o165 : Obj := h5 68
noncomputable def o174 : Obj := h5 183
noncomputable def o218 : Obj := h5 92
noncomputable def o236 : Obj := h5 80
noncomputable def o326 : Obj := h5 56
noncomputable def o334 : Obj := h5 116
noncomputable def o340 : Obj := h5 31
noncomputable def o353 : Obj := h5 104
noncomputable def o380 : Obj := h5 152
noncomputable def o381 : Obj := h5 128
noncomputable def o395 : Obj := h5 44
noncomputable def o12 : Obj := ⟨(.type "dict"), none, (Data.dict #[en P "__name__" 165 (.str "treeright.seats" 455), en P "__doc__" 166 .none, en P "__package__" 167 .none, en P "__loader__" 168 (.builtin "__main__.__loader__#opaque"), en P "__spec__" 169 .none, en P "__annotations__" 170 (.ref 6), en P "__builtins__" 171 (.ref 4), en P "__file__" 173 (.str "/claim/cut.py" 172), en P "__cached__" 174 .none, en P "_wall" 193 (.ref 21), en P "TreeError" 213 (.ref 31), en P "NoTree" 229 (.ref 44), en P "NoHouse" 245 (.ref 56), en P "NoSeat" 261 (.ref 68), en P "NoAsker" 277 (.ref 80), en P "NoLetter" 293 (.ref 92), en P "NoRight" 309 (.ref 104), en P "NoRow" 325 (.ref 116), en P "NoTie" 341 (.ref 128), en P "Down" 357 (.ref 140), en P "NoMend" 373 (.ref 152), en P "NoText" 398 (.ref 171), en P "NoLine" 414 (.ref 183), en P "LETTERS" 418 (.str "abcdefghijklmnopqrstuvwxyz" 417), en P "LONGEST_NAME" 420 (.int 8 419), en P "is_name" 426 (.ref 190), en P "is_whole" 433 (.ref 197), en P "is_one_of" 441 (.ref 204), en P "are_names" 447 (.ref 209), en P "are_unlike" 454 (.ref 216)] 30), #[]⟩
noncomputable def o15 : Obj := ⟨(.type "dict"), none, (Data.dict #[en P "__name__" 165 (.str "treeright.errors" 194), en P "__doc__" 166 .none, en P "__package__" 167 .none, en P "__loader__" 168 (.builtin "__main__.__loader__#opaque"), en P "__spec__" 169 .none, en P "__annotations__" 170 (.ref 6), en P "__builtins__" 171 (.ref 4), en P "__file__" 173 (.str "/claim/cut.py" 172), en P "__cached__" 174 .none, en P "_wall" 193 (.ref 21), en P "TreeError" 213 (.ref 31), en P "NoTree" 229 (.ref 44), en P "NoHouse" 245 (.ref 56), en P "NoSeat" 261 (.ref 68), en P "NoAsker" 277 (.ref 80), en P "NoLetter" 293 (.ref 92)] 16), #[]⟩
noncomputable def o18 : Obj := ⟨(.type "type"), none, (Data.cls ⟨"TreeError", [(.type "ValueError")], [(.ref 31), (.type "ValueError"), (.type "Exception"), (.type "BaseException"), (.type "object")], 30, "TreeError", true, [], [(.ref 44), (.ref 56), (.ref 68), (.ref 80), (.ref 92), (.ref 104), (.ref 116)], false, none, false⟩), #[(some (.ref 22)), none, (some (.str "TreeError" 196)), (some (.str "TreeError" 204)), (some (.builtin "ValueError.__new__")), (some (.bool true))]⟩
noncomputable def o20 : Obj := ⟨.none, none, (Data.fields #[(.int 1 0), (.int 0 0), (.ref 20), (.int 5 0), (.int 0 0), (.ref 27)]), #[]⟩
noncomputable def h6 (a0 : Str) (a1 : Nat) (a2 : Nat) (a3 : Nat) (a4 : Nat) (a5 : Nat) : Obj := ⟨(.type "type"), none, (Data.cls ⟨a0, [(.ref 31)], [(.ref a1), (.ref 31), (.type "ValueError"), (.type "Exception"), (.type "BaseException"), (.type "object")], a2, a0, true, [], [], false, none, false⟩), #[(some (.ref a3)), none, (some (.str a0 a4)), (some (.str a0 a5)), (some (.builtin "ValueError.__new__")), (some (.bool true))]⟩
noncomputable def o21 : Obj := h6 "NoRight" 104 103 95 294 302
noncomputable def o22 : Obj := h6 "NoTree" 44 43 35 214 222
noncomputable def o47 : Obj := h6 "NoMend" 152 151 143 358 366
noncomputable def o70 : Obj := h6 "NoRow" 116 115 107 310 318
noncomputable def o84 : Obj := h6 "NoText" 171 170 155 374 382
noncomputable def o133 : Obj := h6 "Down" 140 139 131 342 350
noncomputable def o253 : Obj := h6 "NoLine" 183 182 174 399 407
noncomputable def o282 : Obj := h6 "NoTie" 128 127 119 326 334
noncomputable def o297 : Obj := h6 "NoAsker" 80 79 71 262 270
noncomputable def o328 : Obj := h6 "NoLetter" 92 91 83 278 286
noncomputable def o364 : Obj := h6 "NoHouse" 56 55 47 230 238
noncomputable def o366 : Obj := h6 "NoSeat" 68 67 59 246 254
noncomputable def h7 (a0 : Str) (a1 : Nat) : Obj := ⟨(.type "tuple"), none, (Data.seq #[(.str a0 a1)] 0), #[]⟩
noncomputable def o24 : Obj := h7 "self" 796
noncomputable def o46 : Obj := h7 "self" 528
noncomputable def o92 : Obj := h7 "self" 535
noncomputable def o101 : Obj := h7 "self" 494
noncomputable def o162 : Obj := h7 "names" 451
noncomputable def o167 : Obj := h7 "self" 521
noncomputable def o191 : Obj := h7 "self" 781
noncomputable def o197 : Obj := h7 "self" 508
noncomputable def o213 : Obj := h7 "self" 501
noncomputable def o214 : Obj := h7 "_law_cell" 842
noncomputable def o260 : Obj := h7 "line" 394
noncomputable def o261 : Obj := h7 "thing" 430
noncomputable def o274 : Obj := h7 "house" 460
noncomputable def o292 : Obj := h7 "self" 487
noncomputable def o336 : Obj := h7 "self" 591
noncomputable def o346 : Obj := h7 "self" 765
noncomputable def o369 : Obj := h7 "k" 190
noncomputable def o375 : Obj := h7 "self" 758
noncomputable def h8 (a0 : Str) (a1 : Nat) (a2 : Nat) (a3 : Nat) (a4 : Int) (a5 : Nat) (a6 : Nat) (a7 : Int) (a8 : Nat) : Obj := ⟨(.type "code"), none, (Data.fields #[(.str a0 a1), (.str a0 a2), (.str "/claim/cut.py" a3), (.int a4 0), (.int 0 0), (.int 0 0), (.int 0 0), (.int 0 0), (.ref a5), (.bool false), (.int 181 0), (.ref a6), .none, .none, .none, .none, (.int a7 0), (.int a4 0), (.str "/claim/cut.py" a8)]), #[]⟩
noncomputable def o27 : Obj := h8 "Seat" 466 467 468 53 227 228 469 470
noncomputable def o54 : Obj := h8 "NoLine" 401 402 403 32 177 178 404 405
noncomputable def o108 : Obj := h8 "NoTie" 328 329 330 21 122 123 331 332
noncomputable def o154 : Obj := h8 "NoHouse" 232 233 234 9 50 51 235 236
noncomputable def o176 : Obj := h8 "NoTree" 216 217 218 7 38 39 219 220
noncomputable def o193 : Obj := h8 "TreeError" 198 199 200 5 25 26 201 202
noncomputable def o223 : Obj := h8 "<module>" 182 183 184 1 11 12 185 186
noncomputable def o224 : Obj := h8 "NoRow" 312 313 314 19 110 111 315 316
noncomputable def o231 : Obj := h8 "NoSeat" 248 249 250 11 62 63 251 252
noncomputable def o300 : Obj := h8 "NoRight" 296 297 298 17 98 99 299 300
noncomputable def o305 : Obj := h8 "NoLetter" 280 281 282 15 86 87 283 284
noncomputable def o317 : Obj := h8 "NoText" 376 377 378 27 158 159 379 380
noncomputable def o349 : Obj := h8 "House" 649 650 651 152 382 383 652 653
noncomputable def o357 : Obj := h8 "NoAsker" 264 265 266 13 74 75 267 268
noncomputable def o377 : Obj := h8 "NoMend" 360 361 362 25 146 147 363 364
noncomputable def o402 : Obj := h8 "Down" 344 345 346 23 134 135 347 348
noncomputable def o30 : Obj := ⟨.none, none, (Data.fields #[(.int 1 0), (.int 0 0), (.ref 20), (.int 5 0), (.int 0 0), (.ref 27), (.int 7 0), (.int 0 0), (.ref 40), (.int 9 0), (.int 0 0), (.ref 52), (.int 11 0), (.int 0 0), (.ref 64), (.int 13 0), (.int 0 0), (.ref 76), (.int 15 0), (.int 0 0), (.ref 88), (.int 17 0), (.int 0 0), (.ref 100), (.int 19 0), (.int 0 0), (.ref 112), (.int 21 0), (.int 0 0), (.ref 124), (.int 23 0), (.int 0 0), (.ref 136), (.int 25 0), (.int 0 0), (.ref 148), (.int 27 0), (.int 0 0), (.ref 160), (.int 32 0), (.int 0 0), (.ref 179), (.int 37 0), (.int 0 0), (.ref 189), (.int 41 0), (.int 0 0), (.ref 196), (.int 43 0), (.int 0 0), (.ref 203), (.int 45 0), (.int 0 0), (.ref 208), (.int 47 0), (.int 0 0), (.ref 215), (.int 50 0), (.int 0 0), (.ref 222), (.int 53 0), (.int 0 0), (.ref 229), (.int 141 0), (.int 0 0), (.ref 360), (.int 143 0), (.int 0 0), (.ref 365), (.int 147 0), (.int 0 0), (.ref 372), (.int 150 0), (.int 0 0), (.ref 377)]), #[]⟩
noncomputable def o31 : Obj := ⟨.none, none, (Data.fields #[(.int 1 0), (.int 0 0), (.ref 20), (.int 5 0), (.int 0 0), (.ref 27), (.int 7 0), (.int 0 0), (.ref 40), (.int 9 0), (.int 0 0), (.ref 52), (.int 11 0), (.int 0 0), (.ref 64), (.int 13 0), (.int 0 0), (.ref 76), (.int 15 0), (.int 0 0), (.ref 88), (.int 17 0), (.int 0 0), (.ref 100), (.int 19 0), (.int 0 0), (.ref 112), (.int 21 0), (.int 0 0), (.ref 124), (.int 23 0), (.int 0 0), (.ref 136), (.int 25 0), (.int 0 0), (.ref 148), (.int 27 0), (.int 0 0), (.ref 160), (.int 32 0), (.int 0 0), (.ref 179), (.int 37 0), (.int 0 0), (.ref 189), (.int 41 0), (.int 0 0), (.ref 196), (.int 43 0), (.int 0 0), (.ref 203), (.int 45 0), (.int 0 0), (.ref 208), (.int 47 0), (.int 0 0), (.ref 215), (.int 50 0), (.int 0 0), (.ref 222)]), #[]⟩
noncomputable def o34 : Obj := ⟨(.type "dict"), none, (Data.dict #[en P "__module__" 654 (.str "treeright.houses" 617), en P "__qualname__" 656 (.str "House" 655), en P "__firstlineno__" 658 (.int 152 657), en P "__init__" 664 (.ref 390), en P "want" 673 (.ref 397), en P "leave" 681 (.ref 404), en P "done" 689 (.ref 411), en P "ask" 698 (.ref 418), en P "come" 708 (.ref 425), en P "askers" 714 (.ref 430), en P "arrow" 722 (.ref 437), en P "row" 730 (.ref 444), en P "inside" 738 (.ref 451), en P "has_asked" 746 (.ref 458), en P "move_on" 754 (.ref 465), en P "twin" 761 (.ref 472), en P "state" 768 (.ref 479), en P "settle" 777 (.ref 486), en P "rights_wanted" 784 (.ref 493), en P "right_of" 792 (.ref 500), en P "best_right" 799 (.ref 507), en P "check_letter" 808 (.ref 514), en P "__static_attributes__" 812 (.ref 515)] 23), #[]⟩
noncomputable def h9 (a0 : Str) (a1 : Nat) (a2 : Str) (a3 : Nat) (a4 : Nat) (a5 : Int) (a6 : Int) (a7 : Nat) (a8 : Nat) (a9 : Nat) (a10 : Int) (a11 : Nat) : Obj := ⟨(.type "code"), none, (Data.fields #[(.str a0 a1), (.str a2 a3), (.str "/claim/cut.py" a4), (.int a5 0), (.int a6 0), (.int 0 0), (.int 0 0), (.int 3 0), (.ref a7), (.bool true), (.int 181 0), (.ref a8), .none, .none, .none, (.ref a9), (.int a10 0), (.int a5 0), (.str "/claim/cut.py" a11)]), #[]⟩
noncomputable def o35 : Obj := h9 "_law_names" 855 "_law_names" 856 857 245 2 550 551 552 858 859
noncomputable def o64 : Obj := h9 "__init__" 659 "House.__init__" 660 661 154 4 386 387 388 662 663
noncomputable def o82 : Obj := h9 "law" 917 "law" 918 919 324 1 596 597 598 920 921
noncomputable def o173 : Obj := h9 "are_arrows" 627 "are_arrows" 628 629 143 2 362 363 364 630 631
noncomputable def o221 : Obj := h9 "_law_alike" 879 "_law_alike" 880 881 269 2 567 568 569 882 883
noncomputable def o243 : Obj := h9 "_law_wrong" 901 "_law_wrong" 902 903 293 4 584 585 586 904 905
noncomputable def o244 : Obj := h9 "is_name" 421 "is_name" 422 423 37 1 186 187 188 424 425
noncomputable def o268 : Obj := h9 "askers" 512 "Seat.askers" 513 514 75 1 266 267 268 515 516
noncomputable def o271 : Obj := h9 "_law_made" 895 "_law_made" 896 897 282 1 579 580 581 898 899
noncomputable def o276 : Obj := h9 "are_names" 442 "are_names" 443 444 45 1 205 206 207 445 446
noncomputable def o293 : Obj := h9 "askers" 709 "House.askers" 710 711 182 1 426 427 428 712 713
noncomputable def o339 : Obj := h9 "_law_kinds" 873 "_law_kinds" 874 875 260 1 562 563 564 876 877
noncomputable def o341 : Obj := h9 "numbered" 641 "numbered" 642 643 150 2 374 375 376 644 645
noncomputable def h10 (a0 : Nat) (a1 : Nat) (a2 : Str) (a3 : Nat) (a4 : Nat) (a5 : Int) (a6 : Nat) (a7 : Nat) (a8 : Nat) : Obj := ⟨(.type "dict"), none, (Data.dict #[en P "__module__" a0 (.str "treeright.errors" 194), en P "__qualname__" a1 (.str a2 a3), en P "__firstlineno__" a4 (.int a5 a6), en P "__static_attributes__" a7 (.ref a8)] 4), #[]⟩
noncomputable def o37 : Obj := h10 P 317 319 "NoRow" 318 321 19 320 322 114
noncomputable def o39 : Obj := h10 P 301 303 "NoRight" 302 305 17 304 306 102
noncomputable def o113 : Obj := h10 P 365 367 "NoMend" 366 369 25 368 370 150
noncomputable def o149 : Obj := h10 P 333 335 "NoTie" 334 337 21 336 338 126
noncomputable def o247 : Obj := h10 P 406 408 "NoLine" 407 410 32 409 411 181
noncomputable def o252 : Obj := h10 P 269 271 "NoAsker" 270 273 13 272 274 78
noncomputable def o258 : Obj := h10 P 285 287 "NoLetter" 286 289 15 288 290 90
noncomputable def o275 : Obj := h10 P 237 239 "NoHouse" 238 241 9 240 242 54
noncomputable def o310 : Obj := h10 P 221 223 "NoTree" 222 225 7 224 226 42
noncomputable def o315 : Obj := h10 P 253 255 "NoSeat" 254 257 11 256 258 66
noncomputable def o372 : Obj := h10 P 203 205 "TreeError" 204 207 5 206 208 29
noncomputable def o383 : Obj := h10 P 349 351 "Down" 350 353 23 352 354 138
noncomputable def h11 (a0 : Nat) (a1 : Nat) (a2 : Int) (a3 : Nat) (a4 : Str) (a5 : Nat) (a6 : Nat) (a7 : Str) (a8 : Nat) (a9 : Nat) (a10 : Nat) (a11 : Nat) : Obj := ⟨(.type "dict"), none, (Data.dict #[en P "__module__" a0 (.str "treeright.errors" 194), en P "__firstlineno__" a1 (.int a2 a3), en P a4 a5 (.ref a6), en P a7 a8 (.ref a9), en P "__doc__" a10 .none] a11), #[]⟩
noncomputable def o44 : Obj := h11 P 203 207 5 206 "__static_attributes__" 208 29 "__weakref__" 210 32 211 3
noncomputable def o256 : Obj := h11 P 381 385 27 384 "__init__" 393 168 "__static_attributes__" 395 169 396 2
noncomputable def h12 (a0 : Str) (a1 : Nat) (a2 : Str) (a3 : Nat) (a4 : Str) (a5 : Nat) (a6 : Str) (a7 : Nat) : Obj := ⟨(.type "tuple"), none, (Data.seq #[(.str a0 a1), (.str a2 a3), (.str a4 a5), (.str a6 a7)] 0), #[]⟩
noncomputable def o45 : Obj := h12 "asked" 605 "holder" 606 "pointer" 607 "waiting" 608
noncomputable def o107 : Obj := h12 "self" 702 "house" 703 "right" 704 "back" 705
noncomputable def o196 : Obj := h12 "_law_name" 910 "_law_neighbours" 911 "_law_ways" 912 "_law_e" 913
noncomputable def o269 : Obj := h12 "self" 598 "kind" 599 "name" 600 "back" 601
noncomputable def o398 : Obj := h12 "_law_house" 888 "_law_many" 889 "_law_found" 890 "_law_right" 891
noncomputable def h13 (a0 : Nat) (a1 : Nat) : Obj := ⟨(.type "getset_descriptor"), none, (Data.fields #[(.str "__dict__" a0), (.ref a1), (.builtin "function.__dict__"), (.builtin "function.__dict__#set")]), #[]⟩
noncomputable def o51 : Obj := h13 813 517
noncomputable def o250 : Obj := h13 610 350
noncomputable def o53 : Obj := ⟨(.type "dict"), none, (Data.dict #[en P "__name__" 165 (.str "law_treeright_k21_houses_made" 820), en P "__doc__" 166 .none, en P "__package__" 167 .none, en P "__loader__" 168 (.builtin "__main__.__loader__#opaque"), en P "__spec__" 169 .none, en P "__annotations__" 170 (.ref 6), en P "__builtins__" 171 (.ref 4), en P "__file__" 173 (.str "/claim/cut.py" 172), en P "__cached__" 174 .none, en P "_wall" 193 (.ref 21), en P "TreeError" 213 (.ref 31), en P "NoTree" 229 (.ref 44), en P "NoHouse" 245 (.ref 56), en P "NoSeat" 261 (.ref 68), en P "NoAsker" 277 (.ref 80), en P "NoLetter" 293 (.ref 92), en P "NoRight" 309 (.ref 104), en P "NoRow" 325 (.ref 116), en P "NoTie" 341 (.ref 128), en P "Down" 357 (.ref 140), en P "NoMend" 373 (.ref 152), en P "NoText" 398 (.ref 171), en P "NoLine" 414 (.ref 183), en P "LETTERS" 418 (.str "abcdefghijklmnopqrstuvwxyz" 417), en P "LONGEST_NAME" 420 (.int 8 419), en P "is_name" 426 (.ref 190), en P "is_whole" 433 (.ref 197), en P "is_one_of" 441 (.ref 204), en P "are_names" 447 (.ref 209), en P "are_unlike" 454 (.ref 216), en P "check_house" 463 (.ref 223), en P "Seat" 616 (.ref 350), en P "are_neighbours" 626 (.ref 361), en P "are_arrows" 632 (.ref 366), en P "check_right" 640 (.ref 373), en P "numbered" 646 (.ref 378), en P "House" 819 (.ref 517), en P "_law_cell_at" 829 (.ref 528), en P "_law_mixed" 838 (.ref 535), en P "_law_digits" 845 (.ref 542), en P "_law_next" 854 (.ref 549), en P "_law_names" 860 (.ref 554), en P "_law_odd" 872 (.ref 561), en P "_law_kinds" 878 (.ref 566), en P "_law_alike" 884 (.ref 571), en P "_law_told" 894 (.ref 578), en P "_law_made" 900 (.ref 583), en P "_law_wrong" 906 (.ref 588), en P "_law_refusal" 916 (.ref 595), en P "law" 922 (.ref 600)] 50), #[]⟩
noncomputable def h14 (a0 : Nat) (a1 : Nat) (a2 : Str) (a3 : Nat) : Obj := ⟨(.type "frame"), none, Data.plain, #[(some (.ref a0)), (some (.ref 3)), (some (.ref a1)), none, (some (.str a2 a3)), none, (some (.ref 0))]⟩
noncomputable def o58 : Obj := h14 124 121 "treeright.errors" 194
noncomputable def o60 : Obj := h14 64 61 "treeright.errors" 194
noncomputable def o90 : Obj := h14 148 145 "treeright.errors" 194
noncomputable def o95 : Obj := h14 112 109 "treeright.errors" 194
noncomputable def o99 : Obj := h14 136 133 "treeright.errors" 194
noncomputable def o118 : Obj := h14 13 3 "__main__" 164
noncomputable def o123 : Obj := h14 384 381 "treeright.houses" 617
noncomputable def o152 : Obj := h14 88 85 "treeright.errors" 194
noncomputable def o172 : Obj := h14 27 24 "treeright.errors" 194
noncomputable def o175 : Obj := h14 52 49 "treeright.errors" 194
noncomputable def o209 : Obj := h14 229 226 "treeright.seats" 455
noncomputable def o210 : Obj := h14 76 73 "treeright.errors" 194
noncomputable def o237 : Obj := h14 100 97 "treeright.errors" 194
noncomputable def o270 : Obj := h14 40 37 "treeright.errors" 194
noncomputable def o322 : Obj := h14 160 157 "treeright.errors" 194
noncomputable def o348 : Obj := h14 179 176 "treeright.errors" 194
noncomputable def o61 : Obj := ⟨(.type "type"), none, (Data.cls ⟨"TreeError", [(.type "ValueError")], [(.ref 31), (.type "ValueError"), (.type "Exception"), (.type "BaseException"), (.type "object")], 30, "TreeError", true, [], [(.ref 44), (.ref 56), (.ref 68), (.ref 80), (.ref 92), (.ref 104), (.ref 116), (.ref 128), (.ref 140), (.ref 152), (.ref 171), (.ref 183)], false, none, false⟩), #[(some (.ref 22)), none, (some (.str "TreeError" 196)), (some (.str "TreeError" 204)), (some (.builtin "ValueError.__new__")), (some (.bool true))]⟩
noncomputable def h15 (a0 : Nat) : Obj := ⟨(.type "builtin_function_or_method"), none, (Data.fields #[(.builtin "object.__init_subclass__"), (.ref a0)]), #[]⟩
noncomputable def o63 : Obj := h15 31
noncomputable def o104 : Obj := h15 183
noncomputable def o105 : Obj := h15 56
noncomputable def o120 : Obj := h15 350
noncomputable def o136 : Obj := h15 128
noncomputable def o170 : Obj := h15 116
noncomputable def o207 : Obj := h15 517
noncomputable def o216 : Obj := h15 152
noncomputable def o228 : Obj := h15 171
noncomputable def o239 : Obj := h15 140
noncomputable def o262 : Obj := h15 80
noncomputable def o312 : Obj := h15 44
noncomputable def o323 : Obj := h15 68
noncomputable def o324 : Obj := h15 92
noncomputable def o400 : Obj := h15 104
noncomputable def o66 : Obj := ⟨(.type "type"), none, (Data.cls ⟨"TreeError", [(.type "ValueError")], [(.ref 31), (.type "ValueError"), (.type "Exception"), (.type "BaseException"), (.type "object")], 30, "TreeError", true, [], [(.ref 44), (.ref 56), (.ref 68), (.ref 80), (.ref 92), (.ref 104)], false, none, false⟩), #[(some (.ref 22)), none, (some (.str "TreeError" 196)), (some (.str "TreeError" 204)), (some (.builtin "ValueError.__new__")), (some (.bool true))]⟩
noncomputable def o73 : Obj := ⟨(.type "type"), none, (Data.cls ⟨"TreeError", [(.type "ValueError")], [(.ref 31), (.type "ValueError"), (.type "Exception"), (.type "BaseException"), (.type "object")], 30, "TreeError", true, [], [(.ref 44), (.ref 56), (.ref 68), (.ref 80), (.ref 92), (.ref 104), (.ref 116), (.ref 128)], false, none, false⟩), #[(some (.ref 22)), none, (some (.str "TreeError" 196)), (some (.str "TreeError" 204)), (some (.builtin "ValueError.__new__")), (some (.bool true))]⟩
noncomputable def o76 : Obj := ⟨(.type "type"), none, (Data.cls ⟨"TreeError", [(.type "ValueError")], [(.ref 31), (.type "ValueError"), (.type "Exception"), (.type "BaseException"), (.type "object")], 30, "TreeError", true, [], [(.ref 44), (.ref 56), (.ref 68)], false, none, false⟩), #[(some (.ref 22)), none, (some (.str "TreeError" 196)), (some (.str "TreeError" 204)), (some (.builtin "ValueError.__new__")), (some (.bool true))]⟩
noncomputable def o85 : Obj := ⟨(.type "builtin_function_or_method"), none, (Data.fields #[(.builtin "type.__prepare__"), (.type "type")]), #[]⟩
noncomputable def o87 : Obj := ⟨(.type "dict"), none, (Data.dict #[en P "__module__" 471 (.str "treeright.seats" 455), en P "__firstlineno__" 475 (.int 53 474), en P "__init__" 483 (.ref 237), en P "arrow" 490 (.ref 244), en P "row" 497 (.ref 251), en P "inside" 504 (.ref 258), en P "has_asked" 511 (.ref 265), en P "askers" 517 (.ref 270), en P "crowd" 524 (.ref 277), en P "twin" 531 (.ref 284), en P "state" 538 (.ref 291), en P "settle" 546 (.ref 298), en P "want" 554 (.ref 305), en P "leave" 562 (.ref 312), en P "done" 570 (.ref 319), en P "ask" 578 (.ref 326), en P "come" 587 (.ref 333), en P "move_on" 594 (.ref 340), en P "serve_first" 604 (.ref 347), en P "__static_attributes__" 609 (.ref 348), en P "__dict__" 611 (.ref 351), en P "__weakref__" 613 (.ref 352), en P "__doc__" 614 .none] 4), #[]⟩
noncomputable def o88 : Obj := ⟨(.type "tuple"), none, (Data.seq #[(.ref 31)] 0), #[]⟩
noncomputable def h16 (a0 : Nat) (a1 : Nat) (a2 : Int) (a3 : Nat) (a4 : Nat) (a5 : Nat) (a6 : Nat) : Obj := ⟨(.type "dict"), none, (Data.dict #[en P "__module__" a0 (.str "treeright.errors" 194), en P "__firstlineno__" a1 (.int a2 a3), en P "__static_attributes__" a4 (.ref a5), en P "__doc__" a6 .none] 2), #[]⟩
noncomputable def o109 : Obj := h16 P 349 353 23 352 354 138 355
noncomputable def o111 : Obj := h16 P 333 337 21 336 338 126 339
noncomputable def o141 : Obj := h16 P 317 321 19 320 322 114 323
noncomputable def o156 : Obj := h16 P 269 273 13 272 274 78 275
noncomputable def o286 : Obj := h16 P 253 257 11 256 258 66 259
noncomputable def o289 : Obj := h16 P 365 369 25 368 370 150 371
noncomputable def o355 : Obj := h16 P 237 241 9 240 242 54 243
noncomputable def o378 : Obj := h16 P 221 225 7 224 226 42 227
noncomputable def o391 : Obj := h16 P 301 305 17 304 306 102 307
noncomputable def o396 : Obj := h16 P 406 410 32 409 411 181 412
noncomputable def o401 : Obj := h16 P 285 289 15 288 290 90 291
noncomputable def o112 : Obj := ⟨(.type "dict"), none, (Data.dict #[en P "__module__" 381 (.str "treeright.errors" 194), en P "__qualname__" 383 (.str "NoText" 382), en P "__firstlineno__" 385 (.int 27 384), en P "__init__" 393 (.ref 168), en P "__static_attributes__" 395 (.ref 169)] 5), #[]⟩
noncomputable def o117 : Obj := ⟨(.type "dict"), none, (Data.dict #[en P "__name__" 165 (.str "treeright.seats" 455), en P "__doc__" 166 .none, en P "__package__" 167 .none, en P "__loader__" 168 (.builtin "__main__.__loader__#opaque"), en P "__spec__" 169 .none, en P "__annotations__" 170 (.ref 6), en P "__builtins__" 171 (.ref 4), en P "__file__" 173 (.str "/claim/cut.py" 172), en P "__cached__" 174 .none, en P "_wall" 193 (.ref 21), en P "TreeError" 213 (.ref 31), en P "NoTree" 229 (.ref 44), en P "NoHouse" 245 (.ref 56), en P "NoSeat" 261 (.ref 68), en P "NoAsker" 277 (.ref 80), en P "NoLetter" 293 (.ref 92), en P "NoRight" 309 (.ref 104), en P "NoRow" 325 (.ref 116), en P "NoTie" 341 (.ref 128), en P "Down" 357 (.ref 140), en P "NoMend" 373 (.ref 152), en P "NoText" 398 (.ref 171), en P "NoLine" 414 (.ref 183), en P "LETTERS" 418 (.str "abcdefghijklmnopqrstuvwxyz" 417), en P "LONGEST_NAME" 420 (.int 8 419), en P "is_name" 426 (.ref 190), en P "is_whole" 433 (.ref 197), en P "is_one_of" 441 (.ref 204), en P "are_names" 447 (.ref 209), en P "are_unlike" 454 (.ref 216), en P "check_house" 463 (.ref 223)] 31), #[]⟩
noncomputable def o125 : Obj := ⟨(.type "tuple"), none, (Data.seq #[(.type "ValueError")] 0), #[]⟩
noncomputable def o139 : Obj := ⟨.none, none, (Data.fields #[(.int 55 0), (.int 4 0), (.ref 236), (.int 63 0), (.int 4 0), (.ref 243), (.int 66 0), (.int 4 0), (.ref 250), (.int 69 0), (.int 4 0), (.ref 257), (.int 72 0), (.int 4 0), (.ref 264), (.int 75 0), (.int 4 0), (.ref 269), (.int 79 0), (.int 4 0), (.ref 276), (.int 82 0), (.int 4 0), (.ref 283), (.int 85 0), (.int 4 0), (.ref 290), (.int 88 0), (.int 4 0), (.ref 297), (.int 91 0), (.int 4 0), (.ref 304), (.int 94 0), (.int 4 0), (.ref 311), (.int 97 0), (.int 4 0), (.ref 318), (.int 100 0), (.int 4 0), (.ref 325), (.int 109 0), (.int 4 0), (.ref 332), (.int 121 0), (.int 4 0), (.ref 339), (.int 131 0), (.int 4 0), (.ref 346)]), #[]⟩
noncomputable def o144 : Obj := ⟨.none, none, (Data.fields #[(.int 1 0), (.int 0 0), (.ref 20), (.int 5 0), (.int 0 0), (.ref 27), (.int 7 0), (.int 0 0), (.ref 40), (.int 9 0), (.int 0 0), (.ref 52), (.int 11 0), (.int 0 0), (.ref 64), (.int 13 0), (.int 0 0), (.ref 76)]), #[]⟩
noncomputable def o145 : Obj := ⟨(.type "dict"), none, (Data.dict #[en P "__name__" 165 (.str "treeright.errors" 194), en P "__doc__" 166 .none, en P "__package__" 167 .none, en P "__loader__" 168 (.builtin "__main__.__loader__#opaque"), en P "__spec__" 169 .none, en P "__annotations__" 170 (.ref 6), en P "__builtins__" 171 (.ref 4), en P "__file__" 173 (.str "/claim/cut.py" 172), en P "__cached__" 174 .none, en P "_wall" 193 (.ref 21), en P "TreeError" 213 (.ref 31), en P "NoTree" 229 (.ref 44), en P "NoHouse" 245 (.ref 56), en P "NoSeat" 261 (.ref 68)] 14), #[]⟩
noncomputable def o146 : Obj := ⟨(.type "type"), none, (Data.cls ⟨"TreeError", [(.type "ValueError")], [(.ref 31), (.type "ValueError"), (.type "Exception"), (.type "BaseException"), (.type "object")], 30, "TreeError", true, [], [(.ref 44), (.ref 56), (.ref 68), (.ref 80), (.ref 92)], false, none, false⟩), #[(some (.ref 22)), none, (some (.str "TreeError" 196)), (some (.str "TreeError" 204)), (some (.builtin "ValueError.__new__")), (some (.bool true))]⟩
noncomputable def o147 : Obj := ⟨(.type "dict"), none, (Data.dict #[en P "__name__" 165 (.str "treeright.errors" 194), en P "__doc__" 166 .none, en P "__package__" 167 .none, en P "__loader__" 168 (.builtin "__main__.__loader__#opaque"), en P "__spec__" 169 .none, en P "__annotations__" 170 (.ref 6), en P "__builtins__" 171 (.ref 4), en P "__file__" 173 (.str "/claim/cut.py" 172), en P "__cached__" 174 .none, en P "_wall" 193 (.ref 21), en P "TreeError" 213 (.ref 31), en P "NoTree" 229 (.ref 44), en P "NoHouse" 245 (.ref 56), en P "NoSeat" 261 (.ref 68), en P "NoAsker" 277 (.ref 80), en P "NoLetter" 293 (.ref 92), en P "NoRight" 309 (.ref 104), en P "NoRow" 325 (.ref 116), en P "NoTie" 341 (.ref 128), en P "Down" 357 (.ref 140), en P "NoMend" 373 (.ref 152)] 21), #[]⟩
noncomputable def h17 (a0 : Nat) (a1 : Nat) : Obj := ⟨(.type "getset_descriptor"), none, (Data.fields #[(.str "__weakref__" a0), (.ref a1), (.builtin "ExceptionGroup.__weakref__"), .none]), #[]⟩
noncomputable def o148 : Obj := h17 209 31
noncomputable def o325 : Obj := h17 815 517
noncomputable def o399 : Obj := h17 612 350
noncomputable def o158 : Obj := ⟨.none, none, (Data.fields #[(.int 1 0), (.int 0 0), (.ref 20), (.int 5 0), (.int 0 0), (.ref 27), (.int 7 0), (.int 0 0), (.ref 40), (.int 9 0), (.int 0 0), (.ref 52), (.int 11 0), (.int 0 0), (.ref 64), (.int 13 0), (.int 0 0), (.ref 76), (.int 15 0), (.int 0 0), (.ref 88), (.int 17 0), (.int 0 0), (.ref 100), (.int 19 0), (.int 0 0), (.ref 112), (.int 21 0), (.int 0 0), (.ref 124), (.int 23 0), (.int 0 0), (.ref 136), (.int 25 0), (.int 0 0), (.ref 148), (.int 27 0), (.int 0 0), (.ref 160)]), #[]⟩
noncomputable def o160 : Obj := ⟨(.type "dict"), none, (Data.dict #[en P "__name__" 165 (.str "treeright.houses" 617), en P "__doc__" 166 .none, en P "__package__" 167 .none, en P "__loader__" 168 (.builtin "__main__.__loader__#opaque"), en P "__spec__" 169 .none, en P "__annotations__" 170 (.ref 6), en P "__builtins__" 171 (.ref 4), en P "__file__" 173 (.str "/claim/cut.py" 172), en P "__cached__" 174 .none, en P "_wall" 193 (.ref 21), en P "TreeError" 213 (.ref 31), en P "NoTree" 229 (.ref 44), en P "NoHouse" 245 (.ref 56), en P "NoSeat" 261 (.ref 68), en P "NoAsker" 277 (.ref 80), en P "NoLetter" 293 (.ref 92), en P "NoRight" 309 (.ref 104), en P "NoRow" 325 (.ref 116), en P "NoTie" 341 (.ref 128), en P "Down" 357 (.ref 140), en P "NoMend" 373 (.ref 152), en P "NoText" 398 (.ref 171), en P "NoLine" 414 (.ref 183), en P "LETTERS" 418 (.str "abcdefghijklmnopqrstuvwxyz" 417), en P "LONGEST_NAME" 420 (.int 8 419), en P "is_name" 426 (.ref 190), en P "is_whole" 433 (.ref 197), en P "is_one_of" 441 (.ref 204), en P "are_names" 447 (.ref 209), en P "are_unlike" 454 (.ref 216), en P "check_house" 463 (.ref 223), en P "Seat" 616 (.ref 350), en P "are_neighbours" 626 (.ref 361), en P "are_arrows" 632 (.ref 366), en P "check_right" 640 (.ref 373), en P "numbered" 646 (.ref 378)] 36), #[]⟩
noncomputable def o168 : Obj := ⟨(.type "dict"), none, (Data.dict #[en P "__name__" 165 (.str "treeright.errors" 194), en P "__doc__" 166 .none, en P "__package__" 167 .none, en P "__loader__" 168 (.builtin "__main__.__loader__#opaque"), en P "__spec__" 169 .none, en P "__annotations__" 170 (.ref 6), en P "__builtins__" 171 (.ref 4), en P "__file__" 173 (.str "/claim/cut.py" 172), en P "__cached__" 174 .none, en P "_wall" 193 (.ref 21), en P "TreeError" 213 (.ref 31)] 11), #[]⟩
noncomputable def o169 : Obj := ⟨.none, none, (Data.fields #[(.int 1 0), (.int 0 0), (.ref 20), (.int 5 0), (.int 0 0), (.ref 27), (.int 7 0), (.int 0 0), (.ref 40), (.int 9 0), (.int 0 0), (.ref 52), (.int 11 0), (.int 0 0), (.ref 64), (.int 13 0), (.int 0 0), (.ref 76), (.int 15 0), (.int 0 0), (.ref 88), (.int 17 0), (.int 0 0), (.ref 100), (.int 19 0), (.int 0 0), (.ref 112), (.int 21 0), (.int 0 0), (.ref 124), (.int 23 0), (.int 0 0), (.ref 136), (.int 25 0), (.int 0 0), (.ref 148), (.int 27 0), (.int 0 0), (.ref 160), (.int 32 0), (.int 0 0), (.ref 179), (.int 37 0), (.int 0 0), (.ref 189), (.int 41 0), (.int 0 0), (.ref 196), (.int 43 0), (.int 0 0), (.ref 203), (.int 45 0), (.int 0 0), (.ref 208), (.int 47 0), (.int 0 0), (.ref 215), (.int 50 0), (.int 0 0), (.ref 222), (.int 53 0), (.int 0 0), (.ref 229)]), #[]⟩
noncomputable def o186 : Obj := ⟨(.type "dict"), none, (Data.dict #[en P "__name__" 165 (.str "treeright.errors" 194), en P "__doc__" 166 .none, en P "__package__" 167 .none, en P "__loader__" 168 (.builtin "__main__.__loader__#opaque"), en P "__spec__" 169 .none, en P "__annotations__" 170 (.ref 6), en P "__builtins__" 171 (.ref 4), en P "__file__" 173 (.str "/claim/cut.py" 172), en P "__cached__" 174 .none, en P "_wall" 193 (.ref 21), en P "TreeError" 213 (.ref 31), en P "NoTree" 229 (.ref 44), en P "NoHouse" 245 (.ref 56), en P "NoSeat" 261 (.ref 68), en P "NoAsker" 277 (.ref 80), en P "NoLetter" 293 (.ref 92), en P "NoRight" 309 (.ref 104), en P "NoRow" 325 (.ref 116), en P "NoTie" 341 (.ref 128), en P "Down" 357 (.ref 140), en P "NoMend" 373 (.ref 152), en P "NoText" 398 (.ref 171)] 22), #[]⟩
noncomputable def o192 : Obj := ⟨(.type "type"), none, (Data.cls ⟨"TreeError", [(.type "ValueError")], [(.ref 31), (.type "ValueError"), (.type "Exception"), (.type "BaseException"), (.type "object")], 30, "TreeError", true, [], [(.ref 44), (.ref 56), (.ref 68), (.ref 80), (.ref 92), (.ref 104), (.ref 116), (.ref 128), (.ref 140), (.ref 152), (.ref 171)], false, none, false⟩), #[(some (.ref 22)), none, (some (.str "TreeError" 196)), (some (.str "TreeError" 204)), (some (.builtin "ValueError.__new__")), (some (.bool true))]⟩
noncomputable def h18 (a0 : Int) (a1 : Int) (a2 : Nat) (a3 : Int) (a4 : Nat) (a5 : Int) (a6 : Nat) (a7 : Int) (a8 : Nat) (a9 : Int) (a10 : Nat) (a11 : Int) (a12 : Nat) (a13 : Int) (a14 : Nat) (a15 : Int) (a16 : Nat) (a17 : Int) (a18 : Nat) (a19 : Int) (a20 : Nat) (a21 : Int) (a22 : Nat) : Obj := ⟨.none, none, (Data.fields #[(.int a0 0), (.int a1 0), (.ref a2), (.int a3 0), (.int a1 0), (.ref a4), (.int a5 0), (.int a1 0), (.ref a6), (.int a7 0), (.int a1 0), (.ref a8), (.int a9 0), (.int a1 0), (.ref a10), (.int a11 0), (.int a1 0), (.ref a12), (.int a13 0), (.int a1 0), (.ref a14), (.int a15 0), (.int a1 0), (.ref a16), (.int a17 0), (.int a1 0), (.ref a18), (.int a19 0), (.int a1 0), (.ref a20), (.int a21 0), (.int a1 0), (.ref a22)]), #[]⟩
noncomputable def o198 : Obj := h18 154 4 389 165 396 168 403 171 410 174 417 178 424 182 429 185 436 189 443 193 450 197 457
noncomputable def o234 : Obj := h18 1 0 20 5 27 7 40 9 52 11 64 13 76 15 88 17 100 19 112 21 124 23 136
noncomputable def o264 : Obj := h18 55 4 236 63 243 66 250 69 257 72 264 75 269 79 276 82 283 85 290 88 297 91 304
noncomputable def h19 (a0 : Str) (a1 : Nat) (a2 : Nat) (a3 : Nat) (a4 : Nat) : Obj := ⟨(.type "type"), none, (Data.cls ⟨a0, [(.type "object")], [(.ref a1), (.type "object")], a2, a0, true, [], [], false, none, false⟩), #[none, none, (some (.str a0 a3)), (some (.str a0 a4)), (some (.builtin "object.__new__")), (some (.bool true))]⟩
noncomputable def o204 : Obj := h19 "House" 517 516 647 655
noncomputable def o347 : Obj := h19 "Seat" 350 349 464 472
noncomputable def o208 : Obj := ⟨.none, none, (Data.fields #[(.int 1 0), (.int 0 0), (.ref 20), (.int 5 0), (.int 0 0), (.ref 27), (.int 7 0), (.int 0 0), (.ref 40), (.int 9 0), (.int 0 0), (.ref 52), (.int 11 0), (.int 0 0), (.ref 64), (.int 13 0), (.int 0 0), (.ref 76), (.int 15 0), (.int 0 0), (.ref 88), (.int 17 0), (.int 0 0), (.ref 100)]), #[]⟩
noncomputable def o217 : Obj := ⟨.none, none, (Data.fields #[(.int 29 0), (.int 4 0), (.ref 167)]), #[]⟩
noncomputable def o220 : Obj := ⟨(.type "dict"), none, (Data.dict #[en P "__name__" 165 (.str "treeright.errors" 194), en P "__doc__" 166 .none, en P "__package__" 167 .none, en P "__loader__" 168 (.builtin "__main__.__loader__#opaque"), en P "__spec__" 169 .none, en P "__annotations__" 170 (.ref 6), en P "__builtins__" 171 (.ref 4), en P "__file__" 173 (.str "/claim/cut.py" 172), en P "__cached__" 174 .none, en P "_wall" 193 (.ref 21), en P "TreeError" 213 (.ref 31), en P "NoTree" 229 (.ref 44), en P "NoHouse" 245 (.ref 56), en P "NoSeat" 261 (.ref 68), en P "NoAsker" 277 (.ref 80)] 15), #[]⟩
noncomputable def o225 : Obj := ⟨(.type "dict"), none, (Data.dict #[en P "__name__" 165 (.str "treeright.houses" 617), en P "__doc__" 166 .none, en P "__package__" 167 .none, en P "__loader__" 168 (.builtin "__main__.__loader__#opaque"), en P "__spec__" 169 .none, en P "__annotations__" 170 (.ref 6), en P "__builtins__" 171 (.ref 4), en P "__file__" 173 (.str "/claim/cut.py" 172), en P "__cached__" 174 .none, en P "_wall" 193 (.ref 21), en P "TreeError" 213 (.ref 31), en P "NoTree" 229 (.ref 44), en P "NoHouse" 245 (.ref 56), en P "NoSeat" 261 (.ref 68), en P "NoAsker" 277 (.ref 80), en P "NoLetter" 293 (.ref 92), en P "NoRight" 309 (.ref 104), en P "NoRow" 325 (.ref 116), en P "NoTie" 341 (.ref 128), en P "Down" 357 (.ref 140), en P "NoMend" 373 (.ref 152), en P "NoText" 398 (.ref 171), en P "NoLine" 414 (.ref 183), en P "LETTERS" 418 (.str "abcdefghijklmnopqrstuvwxyz" 417), en P "LONGEST_NAME" 420 (.int 8 419), en P "is_name" 426 (.ref 190), en P "is_whole" 433 (.ref 197), en P "is_one_of" 441 (.ref 204), en P "are_names" 447 (.ref 209), en P "are_unlike" 454 (.ref 216), en P "check_house" 463 (.ref 223), en P "Seat" 616 (.ref 350), en P "are_neighbours" 626 (.ref 361), en P "are_arrows" 632 (.ref 366), en P "check_right" 640 (.ref 373), en P "numbered" 646 (.ref 378), en P "House" 819 (.ref 517)] 37), #[]⟩
noncomputable def o229 : Obj := ⟨(.type "tuple"), none, (Data.seq #[(.str "_law_source" 864), (.str "_law_name" 865), (.str "_law_way" 866), (.str "_law_some" 867), (.str "_law_signs" 868), (.str "_law_at" 869)] 0), #[]⟩
noncomputable def h20 (a0 : Nat) (a1 : Str) (a2 : Nat) (a3 : Nat) (a4 : Str) (a5 : Nat) (a6 : Nat) (a7 : Int) (a8 : Nat) (a9 : Nat) (a10 : Nat) (a11 : Str) (a12 : Nat) (a13 : Nat) (a14 : Str) (a15 : Nat) (a16 : Nat) (a17 : Str) (a18 : Nat) (a19 : Nat) (a20 : Str) (a21 : Nat) (a22 : Nat) (a23 : Str) (a24 : Nat) (a25 : Nat) (a26 : Str) (a27 : Nat) (a28 : Nat) (a29 : Str) (a30 : Nat) (a31 : Nat) (a32 : Str) (a33 : Nat) (a34 : Nat) (a35 : Str) (a36 : Nat) (a37 : Nat) (a38 : Str) (a39 : Nat) (a40 : Nat) : Obj := ⟨(.type "dict"), none, (Data.dict #[en P "__module__" a0 (.str a1 a2), en P "__qualname__" a3 (.str a4 a5), en P "__firstlineno__" a6 (.int a7 a8), en P "__init__" a9 (.ref a10), en P a11 a12 (.ref a13), en P a14 a15 (.ref a16), en P a17 a18 (.ref a19), en P a20 a21 (.ref a22), en P a23 a24 (.ref a25), en P a26 a27 (.ref a28), en P a29 a30 (.ref a31), en P a32 a33 (.ref a34), en P a35 a36 (.ref a37), en P a38 a39 (.ref a40)] 14), #[]⟩
noncomputable def o235 : Obj := h20 P 654 "treeright.houses" 617 656 "House" 655 658 152 657 664 390 "want" 673 397 "leave" 681 404 "done" 689 411 "ask" 698 418 "come" 708 425 "askers" 714 430 "arrow" 722 437 "row" 730 444 "inside" 738 451 "has_asked" 746 458
noncomputable def o307 : Obj := h20 P 471 "treeright.seats" 455 473 "Seat" 472 475 53 474 483 237 "arrow" 490 244 "row" 497 251 "inside" 504 258 "has_asked" 511 265 "askers" 517 270 "crowd" 524 277 "twin" 531 284 "state" 538 291 "settle" 546 298 "want" 554 305
noncomputable def o240 : Obj := ⟨(.type "dict"), none, (Data.dict #[en P "__name__" 165 (.str "treeright.errors" 194), en P "__doc__" 166 .none, en P "__package__" 167 .none, en P "__loader__" 168 (.builtin "__main__.__loader__#opaque"), en P "__spec__" 169 .none, en P "__annotations__" 170 (.ref 6), en P "__builtins__" 171 (.ref 4), en P "__file__" 173 (.str "/claim/cut.py" 172), en P "__cached__" 174 .none, en P "_wall" 193 (.ref 21), en P "TreeError" 213 (.ref 31), en P "NoTree" 229 (.ref 44), en P "NoHouse" 245 (.ref 56), en P "NoSeat" 261 (.ref 68), en P "NoAsker" 277 (.ref 80), en P "NoLetter" 293 (.ref 92), en P "NoRight" 309 (.ref 104), en P "NoRow" 325 (.ref 116), en P "NoTie" 341 (.ref 128), en P "Down" 357 (.ref 140)] 20), #[]⟩
noncomputable def o241 : Obj := ⟨.none, none, (Data.fields #[(.int 1 0), (.int 0 0), (.ref 20), (.int 5 0), (.int 0 0), (.ref 27), (.int 7 0), (.int 0 0), (.ref 40), (.int 9 0), (.int 0 0), (.ref 52), (.int 11 0), (.int 0 0), (.ref 64), (.int 13 0), (.int 0 0), (.ref 76), (.int 15 0), (.int 0 0), (.ref 88), (.int 17 0), (.int 0 0), (.ref 100), (.int 19 0), (.int 0 0), (.ref 112), (.int 21 0), (.int 0 0), (.ref 124), (.int 23 0), (.int 0 0), (.ref 136), (.int 25 0), (.int 0 0), (.ref 148)]), #[]⟩
noncomputable def o246 : Obj := ⟨(.type "dict"), none, (Data.dict #[en P "__name__" 165 (.str "treeright.errors" 194), en P "__doc__" 166 .none, en P "__package__" 167 .none, en P "__loader__" 168 (.builtin "__main__.__loader__#opaque"), en P "__spec__" 169 .none, en P "__annotations__" 170 (.ref 6), en P "__builtins__" 171 (.ref 4), en P "__file__" 173 (.str "/claim/cut.py" 172), en P "__cached__" 174 .none, en P "_wall" 193 (.ref 21), en P "TreeError" 213 (.ref 31), en P "NoTree" 229 (.ref 44)] 12), #[]⟩
noncomputable def o255 : Obj := ⟨(.type "type"), none, (Data.cls ⟨"TreeError", [(.type "ValueError")], [(.ref 31), (.type "ValueError"), (.type "Exception"), (.type "BaseException"), (.type "object")], 30, "TreeError", true, [], [(.ref 44), (.ref 56)], false, none, false⟩), #[(some (.ref 22)), none, (some (.str "TreeError" 196)), (some (.str "TreeError" 204)), (some (.builtin "ValueError.__new__")), (some (.bool true))]⟩
noncomputable def o257 : Obj := ⟨.none, none, (Data.fields #[(.int 1 0), (.int 0 0), (.ref 20), (.int 5 0), (.int 0 0), (.ref 27), (.int 7 0), (.int 0 0), (.ref 40), (.int 9 0), (.int 0 0), (.ref 52), (.int 11 0), (.int 0 0), (.ref 64), (.int 13 0), (.int 0 0), (.ref 76), (.int 15 0), (.int 0 0), (.ref 88), (.int 17 0), (.int 0 0), (.ref 100), (.int 19 0), (.int 0 0), (.ref 112), (.int 21 0), (.int 0 0), (.ref 124), (.int 23 0), (.int 0 0), (.ref 136), (.int 25 0), (.int 0 0), (.ref 148), (.int 27 0), (.int 0 0), (.ref 160), (.int 32 0), (.int 0 0), (.ref 179), (.int 37 0), (.int 0 0), (.ref 189), (.int 41 0), (.int 0 0), (.ref 196), (.int 43 0), (.int 0 0), (.ref 203), (.int 45 0), (.int 0 0), (.ref 208), (.int 47 0), (.int 0 0), (.ref 215), (.int 50 0), (.int 0 0), (.ref 222), (.int 53 0), (.int 0 0), (.ref 229), (.int 141 0), (.int 0 0), (.ref 360), (.int 143 0), (.int 0 0), (.ref 365), (.int 147 0), (.int 0 0), (.ref 372), (.int 150 0), (.int 0 0), (.ref 377), (.int 152 0), (.int 0 0), (.ref 384)]), #[]⟩
noncomputable def o278 : Obj := ⟨.none, none, (Data.fields #[(.int 1 0), (.int 0 0), (.ref 20), (.int 5 0), (.int 0 0), (.ref 27), (.int 7 0), (.int 0 0), (.ref 40), (.int 9 0), (.int 0 0), (.ref 52), (.int 11 0), (.int 0 0), (.ref 64)]), #[]⟩
noncomputable def o281 : Obj := ⟨(.type "dict"), none, (Data.dict #[en P "__name__" 165 (.str "treeright.errors" 194), en P "__doc__" 166 .none, en P "__package__" 167 .none, en P "__loader__" 168 (.builtin "__main__.__loader__#opaque"), en P "__spec__" 169 .none, en P "__annotations__" 170 (.ref 6), en P "__builtins__" 171 (.ref 4), en P "__file__" 173 (.str "/claim/cut.py" 172), en P "__cached__" 174 .none, en P "_wall" 193 (.ref 21), en P "TreeError" 213 (.ref 31), en P "NoTree" 229 (.ref 44), en P "NoHouse" 245 (.ref 56), en P "NoSeat" 261 (.ref 68), en P "NoAsker" 277 (.ref 80), en P "NoLetter" 293 (.ref 92), en P "NoRight" 309 (.ref 104), en P "NoRow" 325 (.ref 116)] 18), #[]⟩
noncomputable def o284 : Obj := ⟨(.type "type"), none, (Data.cls ⟨"TreeError", [(.type "ValueError")], [(.ref 31), (.type "ValueError"), (.type "Exception"), (.type "BaseException"), (.type "object")], 30, "TreeError", true, [], [(.ref 44), (.ref 56), (.ref 68), (.ref 80), (.ref 92), (.ref 104), (.ref 116), (.ref 128), (.ref 140)], false, none, false⟩), #[(some (.ref 22)), none, (some (.str "TreeError" 196)), (some (.str "TreeError" 204)), (some (.builtin "ValueError.__new__")), (some (.bool true))]⟩
noncomputable def o290 : Obj := ⟨(.type "type"), none, (Data.cls ⟨"TreeError", [(.type "ValueError")], [(.ref 31), (.type "ValueError"), (.type "Exception"), (.type "BaseException"), (.type "object")], 30, "TreeError", true, [], [(.ref 44), (.ref 56), (.ref 68), (.ref 80), (.ref 92), (.ref 104), (.ref 116), (.ref 128), (.ref 140), (.ref 152)], false, none, false⟩), #[(some (.ref 22)), none, (some (.str "TreeError" 196)), (some (.str "TreeError" 204)), (some (.builtin "ValueError.__new__")), (some (.bool true))]⟩
noncomputable def o294 : Obj := ⟨(.type "type"), none, (Data.cls ⟨"TreeError", [(.type "ValueError")], [(.ref 31), (.type "ValueError"), (.type "Exception"), (.type "BaseException"), (.type "object")], 30, "TreeError", true, [], [(.ref 44)], false, none, false⟩), #[(some (.ref 22)), none, (some (.str "TreeError" 196)), (some (.str "TreeError" 204)), (some (.builtin "ValueError.__new__")), (some (.bool true))]⟩
noncomputable def o309 : Obj := ⟨(.type "dict"), none, (Data.dict #[en P "__name__" 165 (.str "treeright.errors" 194), en P "__doc__" 166 .none, en P "__package__" 167 .none, en P "__loader__" 168 (.builtin "__main__.__loader__#opaque"), en P "__spec__" 169 .none, en P "__annotations__" 170 (.ref 6), en P "__builtins__" 171 (.ref 4), en P "__file__" 173 (.str "/claim/cut.py" 172), en P "__cached__" 174 .none, en P "_wall" 193 (.ref 21), en P "TreeError" 213 (.ref 31), en P "NoTree" 229 (.ref 44), en P "NoHouse" 245 (.ref 56), en P "NoSeat" 261 (.ref 68), en P "NoAsker" 277 (.ref 80), en P "NoLetter" 293 (.ref 92), en P "NoRight" 309 (.ref 104), en P "NoRow" 325 (.ref 116), en P "NoTie" 341 (.ref 128)] 19), #[]⟩
noncomputable def o316 : Obj := ⟨(.type "dict"), none, (Data.dict #[en P "__module__" 471 (.str "treeright.seats" 455), en P "__qualname__" 473 (.str "Seat" 472), en P "__firstlineno__" 475 (.int 53 474), en P "__init__" 483 (.ref 237), en P "arrow" 490 (.ref 244), en P "row" 497 (.ref 251), en P "inside" 504 (.ref 258), en P "has_asked" 511 (.ref 265), en P "askers" 517 (.ref 270), en P "crowd" 524 (.ref 277), en P "twin" 531 (.ref 284), en P "state" 538 (.ref 291), en P "settle" 546 (.ref 298), en P "want" 554 (.ref 305), en P "leave" 562 (.ref 312), en P "done" 570 (.ref 319), en P "ask" 578 (.ref 326), en P "come" 587 (.ref 333), en P "move_on" 594 (.ref 340), en P "serve_first" 604 (.ref 347), en P "__static_attributes__" 609 (.ref 348)] 21), #[]⟩
noncomputable def o318 : Obj := ⟨.none, none, (Data.fields #[(.int 1 0), (.int 0 0), (.ref 20), (.int 5 0), (.int 0 0), (.ref 27), (.int 7 0), (.int 0 0), (.ref 40), (.int 9 0), (.int 0 0), (.ref 52), (.int 11 0), (.int 0 0), (.ref 64), (.int 13 0), (.int 0 0), (.ref 76), (.int 15 0), (.int 0 0), (.ref 88), (.int 17 0), (.int 0 0), (.ref 100), (.int 19 0), (.int 0 0), (.ref 112), (.int 21 0), (.int 0 0), (.ref 124)]), #[]⟩
noncomputable def o319 : Obj := ⟨.none, none, (Data.fields #[(.int 1 0), (.int 0 0), (.ref 20), (.int 5 0), (.int 0 0), (.ref 27), (.int 7 0), (.int 0 0), (.ref 40), (.int 9 0), (.int 0 0), (.ref 52), (.int 11 0), (.int 0 0), (.ref 64), (.int 13 0), (.int 0 0), (.ref 76), (.int 15 0), (.int 0 0), (.ref 88)]), #[]⟩
noncomputable def o327 : Obj := ⟨(.type "dict"), none, (Data.dict #[en P "__module__" 654 (.str "treeright.houses" 617), en P "__firstlineno__" 658 (.int 152 657), en P "__init__" 664 (.ref 390), en P "want" 673 (.ref 397), en P "leave" 681 (.ref 404), en P "done" 689 (.ref 411), en P "ask" 698 (.ref 418), en P "come" 708 (.ref 425), en P "askers" 714 (.ref 430), en P "arrow" 722 (.ref 437), en P "row" 730 (.ref 444), en P "inside" 738 (.ref 451), en P "has_asked" 746 (.ref 458), en P "move_on" 754 (.ref 465), en P "twin" 761 (.ref 472), en P "state" 768 (.ref 479), en P "settle" 777 (.ref 486), en P "rights_wanted" 784 (.ref 493), en P "right_of" 792 (.ref 500), en P "best_right" 799 (.ref 507), en P "check_letter" 808 (.ref 514), en P "__static_attributes__" 812 (.ref 515), en P "__dict__" 814 (.ref 518), en P "__weakref__" 816 (.ref 519), en P "__doc__" 817 .none] 4), #[]⟩
noncomputable def o343 : Obj := ⟨.none, none, (Data.fields #[(.int 1 0), (.int 0 0), (.ref 20), (.int 5 0), (.int 0 0), (.ref 27), (.int 7 0), (.int 0 0), (.ref 40), (.int 9 0), (.int 0 0), (.ref 52), (.int 11 0), (.int 0 0), (.ref 64), (.int 13 0), (.int 0 0), (.ref 76), (.int 15 0), (.int 0 0), (.ref 88), (.int 17 0), (.int 0 0), (.ref 100), (.int 19 0), (.int 0 0), (.ref 112), (.int 21 0), (.int 0 0), (.ref 124), (.int 23 0), (.int 0 0), (.ref 136), (.int 25 0), (.int 0 0), (.ref 148), (.int 27 0), (.int 0 0), (.ref 160), (.int 32 0), (.int 0 0), (.ref 179), (.int 37 0), (.int 0 0), (.ref 189), (.int 41 0), (.int 0 0), (.ref 196), (.int 43 0), (.int 0 0), (.ref 203), (.int 45 0), (.int 0 0), (.ref 208), (.int 47 0), (.int 0 0), (.ref 215), (.int 50 0), (.int 0 0), (.ref 222), (.int 53 0), (.int 0 0), (.ref 229), (.int 141 0), (.int 0 0), (.ref 360), (.int 143 0), (.int 0 0), (.ref 365), (.int 147 0), (.int 0 0), (.ref 372), (.int 150 0), (.int 0 0), (.ref 377), (.int 152 0), (.int 0 0), (.ref 384), (.int 227 0), (.int 0 0), (.ref 527), (.int 231 0), (.int 0 0), (.ref 534), (.int 236 0), (.int 0 0), (.ref 541), (.int 238 0), (.int 0 0), (.ref 548), (.int 245 0), (.int 0 0), (.ref 553), (.int 250 0), (.int 0 0), (.ref 560), (.int 260 0), (.int 0 0), (.ref 565), (.int 269 0), (.int 0 0), (.ref 570), (.int 277 0), (.int 0 0), (.ref 577), (.int 282 0), (.int 0 0), (.ref 582), (.int 293 0), (.int 0 0), (.ref 587), (.int 318 0), (.int 0 0), (.ref 594), (.int 324 0), (.int 0 0), (.ref 599)]), #[]⟩
noncomputable def o351 : Obj := ⟨.none, none, (Data.fields #[(.int 1 0), (.int 0 0), (.ref 20), (.int 5 0), (.int 0 0), (.ref 27), (.int 7 0), (.int 0 0), (.ref 40), (.int 9 0), (.int 0 0), (.ref 52)]), #[]⟩
noncomputable def o363 : Obj := ⟨(.type "type"), none, (Data.cls ⟨"TreeError", [(.type "ValueError")], [(.ref 31), (.type "ValueError"), (.type "Exception"), (.type "BaseException"), (.type "object")], 30, "TreeError", true, [], [], false, none, false⟩), #[(some (.ref 22)), none, (some (.str "TreeError" 196)), (some (.str "TreeError" 204)), (some (.builtin "ValueError.__new__")), (some (.bool true))]⟩
noncomputable def o368 : Obj := ⟨(.type "dict"), none, (Data.dict #[en P "__name__" 165 (.str "treeright.errors" 194), en P "__doc__" 166 .none, en P "__package__" 167 .none, en P "__loader__" 168 (.builtin "__main__.__loader__#opaque"), en P "__spec__" 169 .none, en P "__annotations__" 170 (.ref 6), en P "__builtins__" 171 (.ref 4), en P "__file__" 173 (.str "/claim/cut.py" 172), en P "__cached__" 174 .none, en P "_wall" 193 (.ref 21), en P "TreeError" 213 (.ref 31), en P "NoTree" 229 (.ref 44), en P "NoHouse" 245 (.ref 56)] 13), #[]⟩
noncomputable def h21 (a0 : Int) (a1 : Int) (a2 : Nat) (a3 : Int) (a4 : Nat) (a5 : Int) (a6 : Nat) (a7 : Int) (a8 : Nat) (a9 : Int) (a10 : Nat) (a11 : Int) (a12 : Nat) (a13 : Int) (a14 : Nat) (a15 : Int) (a16 : Nat) (a17 : Int) (a18 : Nat) (a19 : Int) (a20 : Nat) (a21 : Int) (a22 : Nat) (a23 : Int) (a24 : Nat) (a25 : Int) (a26 : Nat) (a27 : Int) (a28 : Nat) (a29 : Int) (a30 : Nat) (a31 : Int) (a32 : Nat) (a33 : Int) (a34 : Nat) (a35 : Int) (a36 : Nat) (a37 : Int) (a38 : Nat) : Obj := ⟨.none, none, (Data.fields #[(.int a0 0), (.int a1 0), (.ref a2), (.int a3 0), (.int a1 0), (.ref a4), (.int a5 0), (.int a1 0), (.ref a6), (.int a7 0), (.int a1 0), (.ref a8), (.int a9 0), (.int a1 0), (.ref a10), (.int a11 0), (.int a1 0), (.ref a12), (.int a13 0), (.int a1 0), (.ref a14), (.int a15 0), (.int a1 0), (.ref a16), (.int a17 0), (.int a1 0), (.ref a18), (.int a19 0), (.int a1 0), (.ref a20), (.int a21 0), (.int a1 0), (.ref a22), (.int a23 0), (.int a1 0), (.ref a24), (.int a25 0), (.int a1 0), (.ref a26), (.int a27 0), (.int a1 0), (.ref a28), (.int a29 0), (.int a1 0), (.ref a30), (.int a31 0), (.int a1 0), (.ref a32), (.int a33 0), (.int a1 0), (.ref a34), (.int a35 0), (.int a1 0), (.ref a36), (.int a37 0), (.int a1 0), (.ref a38)]), #[]⟩
noncomputable def o371 : Obj := h21 1 0 20 5 27 7 40 9 52 11 64 13 76 15 88 17 100 19 112 21 124 23 136 25 148 27 160 32 179 37 189 41 196 43 203 45 208 47 215
noncomputable def o394 : Obj := h21 154 4 389 165 396 168 403 171 410 174 417 178 424 182 429 185 436 189 443 193 450 197 457 201 464 204 471 207 478 210 485 213 492 216 499 219 506 222 513
noncomputable def o379 : Obj := ⟨.none, none, (Data.fields #[(.int 1 0), (.int 0 0), (.ref 20), (.int 5 0), (.int 0 0), (.ref 27), (.int 7 0), (.int 0 0), (.ref 40), (.int 9 0), (.int 0 0), (.ref 52), (.int 11 0), (.int 0 0), (.ref 64), (.int 13 0), (.int 0 0), (.ref 76), (.int 15 0), (.int 0 0), (.ref 88), (.int 17 0), (.int 0 0), (.ref 100), (.int 19 0), (.int 0 0), (.ref 112)]), #[]⟩
noncomputable def o386 : Obj := ⟨(.type "dict"), none, (Data.dict #[en P "__name__" 165 (.str "treeright.seats" 455), en P "__doc__" 166 .none, en P "__package__" 167 .none, en P "__loader__" 168 (.builtin "__main__.__loader__#opaque"), en P "__spec__" 169 .none, en P "__annotations__" 170 (.ref 6), en P "__builtins__" 171 (.ref 4), en P "__file__" 173 (.str "/claim/cut.py" 172), en P "__cached__" 174 .none, en P "_wall" 193 (.ref 21), en P "TreeError" 213 (.ref 31), en P "NoTree" 229 (.ref 44), en P "NoHouse" 245 (.ref 56), en P "NoSeat" 261 (.ref 68), en P "NoAsker" 277 (.ref 80), en P "NoLetter" 293 (.ref 92), en P "NoRight" 309 (.ref 104), en P "NoRow" 325 (.ref 116), en P "NoTie" 341 (.ref 128), en P "Down" 357 (.ref 140), en P "NoMend" 373 (.ref 152), en P "NoText" 398 (.ref 171), en P "NoLine" 414 (.ref 183), en P "LETTERS" 418 (.str "abcdefghijklmnopqrstuvwxyz" 417), en P "LONGEST_NAME" 420 (.int 8 419), en P "is_name" 426 (.ref 190), en P "is_whole" 433 (.ref 197), en P "is_one_of" 441 (.ref 204), en P "are_names" 447 (.ref 209), en P "are_unlike" 454 (.ref 216), en P "check_house" 463 (.ref 223), en P "Seat" 616 (.ref 350)] 32), #[]⟩
noncomputable def o397 : Obj := ⟨(.type "type"), none, (Data.cls ⟨"TreeError", [(.type "ValueError")], [(.ref 31), (.type "ValueError"), (.type "Exception"), (.type "BaseException"), (.type "object")], 30, "TreeError", true, [], [(.ref 44), (.ref 56), (.ref 68), (.ref 80)], false, none, false⟩), #[(some (.ref 22)), none, (some (.str "TreeError" 196)), (some (.str "TreeError" 204)), (some (.builtin "ValueError.__new__")), (some (.bool true))]⟩
noncomputable def o403 : Obj := ⟨(.type "dict"), none, (Data.dict #[en P "__name__" 165 (.str "treeright.errors" 194), en P "__doc__" 166 .none, en P "__package__" 167 .none, en P "__loader__" 168 (.builtin "__main__.__loader__#opaque"), en P "__spec__" 169 .none, en P "__annotations__" 170 (.ref 6), en P "__builtins__" 171 (.ref 4), en P "__file__" 173 (.str "/claim/cut.py" 172), en P "__cached__" 174 .none, en P "_wall" 193 (.ref 21), en P "TreeError" 213 (.ref 31), en P "NoTree" 229 (.ref 44), en P "NoHouse" 245 (.ref 56), en P "NoSeat" 261 (.ref 68), en P "NoAsker" 277 (.ref 80), en P "NoLetter" 293 (.ref 92), en P "NoRight" 309 (.ref 104)] 17), #[]⟩
noncomputable def q0 : BT := N o2 (N o61 (N o7 (N (o111 P) (N o2 L L) L) (N o2 L L)) (N o88 (N o217 (N o92 L L) L) (N o98 L L))) (N o88 (N (o156 P) (N o88 (N o2 L L) L) (N o177 L L)) (N o7 (N o85 (N o19 L L) L) (N o7 L L)))
noncomputable def q1 : BT := N o85 (N o7 (N o88 (N o7 (N o116 L L) L) (N o7 L L)) (N (o391 P) (N o242 (N o2 L L) L) (N o2 L L))) (N (o355 P) (N o7 (N (o289 P) (N o7 L L) L) (N o106 L L)) (N o88 (N o253 L L) (N o101 L L)))
noncomputable def q2 : BT := N o404 (N o88 (N (o286 P) (N o88 (N o2 L L) L) (N o227 L L)) (N o7 (N o7 (N o38 L L) L) (N o2 L L))) (N o7 (N o88 (N o7 (N o180 L L) L) (N o7 L L)) (N (o141 P) (N o54 (N o7 L L) L) (N o62 L L)))
noncomputable def q3 : BT := N o193 (N (o378 P) (N o7 (N (o109 P) (N o7 L L) L) (N o273 L L)) (N o88 (N o84 (N o2 L L) L) (N o338 L L))) (N o88 (N (o401 P) (N o88 (N o126 L L) L) (N o274 L L)) (N o7 (N o7 L L) (N o89 L L)))
noncomputable def q4 : BT := N o369 (N o340 (N o60 (N o381 (N o370 L L) L) (N o261 L L)) (N (o39 P) (N o322 (N o277 L L) L) (N o85 L L))) (N (o275 P) (N o236 (N (o113 P) (N o167 L L) L) (N o320 L L)) (N o95 (N o2 (N o114 L L) L) (N o2 L L)))
noncomputable def q5 : BT := N o2 (N o270 (N (o252 P) (N o99 (N o52 L L) L) (N o2 L L)) (N o353 (N o260 (N o40 L L) L) (N o219 L L))) (N o326 (N o152 (N o380 (N o2 L L) L) (N o2 L L)) (N (o149 P) (N o104 L L) (N o135 L L)))
noncomputable def q6 : BT := N o352 (N (o310 P) (N o165 (N (o383 P) (N o197 L L) L) (N o57 L L)) (N o237 (N o2 (N o7 L L) L) (N o27 L L))) (N o175 (N (o258 P) (N o90 (N o267 L L) L) (N o2 L L)) (N o334 (N o2 L L) (N o2 L L)))
noncomputable def q7 : BT := N o2 (N o395 (N o210 (N o11 (N o268 L L) L) (N o2 L L)) (N (o37 P) (N o228 (N o230 L L) L) (N o68 L L))) (N (o315 P) (N o218 (N (o112 P) (N o2 L L) L) (N o137 L L)) (N o58 (N o244 L L) (N o7 L L)))
noncomputable def q8 : BT := N (boot_o_1 P) (N (o117 P) (N (boot_o_7 P) (q0 P) (q1 P)) (N o2 (q2 P) (q3 P))) (N (boot_o_5 P) (N (boot_o_9 P) (q4 P) (q5 P)) (N o223 (q6 P) (q7 P)))
noncomputable def q9 : BT := N o7 (N o148 (N o231 (N o282 (N o1 L L) L) (N o7 L L)) (N o85 (N o317 (N o2 L L) L) (N o2 L L))) (N o85 (N o297 (N o85 (N o7 L L) L) (N o276 L L)) (N o224 (N (o247 P) (N o203 L L) L) (N o292 L L)))
noncomputable def q10 : BT := N (o372 P) (N o176 (N o85 (N o402 (N o49 L L) L) (N o387 L L)) (N o21 (N o313 (N o32 L L) L) (N o7 L L))) (N o364 (N o305 (N o47 (N o46 L L) L) (N o360 L L)) (N o85 (N o174 L L) (N o2 L L)))
noncomputable def q11 : BT := N o222 (N o85 (N o366 (N o85 (N o7 L L) L) (N o182 L L)) (N o300 (N o335 (N o2 L L) L) (N o264 L L))) (N o154 (N o85 (N o377 (N o140 L L) L) (N o162 L L)) (N o70 (N o348 (N o215 L L) L) (N o23 L L)))
noncomputable def q12 : BT := N o172 (N o22 (N o357 (N o133 (N o132 L L) L) (N o3 L L)) (N o85 (N o55 (N o7 L L) L) (N o72 L L))) (N o85 (N o328 (N o85 (N o161 L L) L) (N o2 L L)) (N o108 (N o238 L L) (N o2 L L)))
noncomputable def q13 : BT := N o2 (N o63 (N o2 (N o136 (N o150 L L) L) (N o2 L L)) (N o2 (N o2 (N o96 L L) L) (N (o307 P) L L))) (N o2 (N o262 (N o2 (N o2 L L) L) (N o2 L L)) (N o2 (N o7 (N o2 L L) L) (N o50 L L)))
noncomputable def q14 : BT := N o7 (N o2 (N o2 (N o2 (N o2 L L) L) (N o233 L L)) (N o400 (N (o256 P) (N o119 L L) L) (N o2 L L))) (N o105 (N o2 (N o216 (N o16 L L) L) (N o7 L L)) (N o2 (N o2 L L) (N o41 L L)))
noncomputable def q15 : BT := N o125 (N o2 (N o323 (N o2 (N o2 L L) L) (N o2 L L)) (N o2 (N o331 (N o80 L L) L) (N o209 L L))) (N o2 (N o2 (N o2 (N o2 L L) L) (N o0 L L)) (N o170 (N (o396 P) L L) (N o7 L L)))
noncomputable def q16 : BT := N (o44 P) (N o312 (N o2 (N o239 (N o153 L L) L) (N o7 L L)) (N o2 (N o88 (N o2 L L) L) (N o2 L L))) (N o2 (N o324 (N o2 (N o7 L L) L) (N o75 L L)) (N o2 (N o350 L L) (N o213 L L)))
noncomputable def q17 : BT := N (boot_o_2 P) (N (boot_o_4 P) (N (boot_o_8 P) (q9 P) (q10 P)) (N o169 q11 q12)) (N (boot_o_6 P) (N (boot_o_10 P) (q13 P) (q14 P)) (N o118 (q15 P) (q16 P)))
noncomputable def t516 (P : Params) : BT := (N (boot_o_0 P) (q8 P) (q17 P))
noncomputable def q18 : BT := N o61 (N o7 (N (o111 P) (N o2 (N o2 L L) L) (N o394 L L)) (N o2 (N o100 L L) (N o362 L L))) (N o88 (N o217 (N o92 L L) (N o2 L L)) (N o98 (N o250 L L) (N o122 L L)))
noncomputable def q19 : BT := N o88 (N (o156 P) (N o88 (N o2 L L) (N o7 L L)) (N o177 (N o7 L L) (N o389 L L))) (N o7 (N o85 (N o19 L L) (N o2 L L)) (N o7 (N o2 L L) (N o7 L L)))
noncomputable def q20 : BT := N o7 (N o88 (N o7 (N o116 (N o325 L L) L) (N o2 L L)) (N o7 (N o2 L L) (N o2 L L))) (N (o391 P) (N o242 (N o2 L L) (N o164 L L)) (N o2 (N o188 L L) (N o2 L L)))
noncomputable def q21 : BT := N (o355 P) (N o7 (N (o289 P) (N o7 L L) (N o279 L L)) (N o106 (N o269 L L) (N o266 L L))) (N o88 (N o253 (N o194 L L) (N o7 L L)) (N o101 (N o7 L L) (N o24 L L)))
noncomputable def q22 : BT := N o88 (N (o286 P) (N o88 (N o2 (N o179 L L) L) (N o7 L L)) (N o227 (N o2 L L) (N o115 L L))) (N o7 (N o7 (N o38 L L) (N o2 L L)) (N o2 (N o2 L L) (N o2 L L)))
noncomputable def q23 : BT := N o7 (N o88 (N o7 (N o180 L L) (N o4 L L)) (N o7 (N o78 L L) (N o7 L L))) (N (o141 P) (N o54 (N o7 L L) (N o48 L L)) (N o62 (N o361 L L) (N o388 L L)))
noncomputable def q24 : BT := N (o378 P) (N o7 (N (o109 P) (N o7 L L) (N o29 L L)) (N o273 (N o124 L L) (N o2 L L))) (N o88 (N o84 (N o2 L L) (N o7 L L)) (N o338 (N o7 L L) (N o189 L L)))
noncomputable def q25 : BT := N o88 (N (o401 P) (N o88 (N o126 L L) (N o6 L L)) (N o274 (N o155 L L) (N o346 L L))) (N o7 (N o7 (N o211 L L) (N o93 L L)) (N o89 (N o2 L L) (N o59 L L)))
noncomputable def q26 : BT := N (o225 P) (N (boot_o_7 P) (N o2 (q18 P) (q19 P)) (N o85 (q20 P) (q21 P))) (N o2 (N o404 (q22 P) (q23 P)) (N o193 (q24 P) (q25 P)))
noncomputable def q27 : BT := N o340 (N o60 (N o381 (N o370 (N o304 L L) L) (N o123 L L)) (N o261 (N o7 L L) (N o306 L L))) (N (o39 P) (N o322 (N o277 L L) (N o13 L L)) (N o85 (N o14 L L) (N o7 L L)))
noncomputable def q28 : BT := N (o275 P) (N o236 (N (o113 P) (N o167 L L) (N o2 L L)) (N o320 (N o2 L L) (N o296 L L))) (N o95 (N o2 (N o114 L L) (N o245 L L)) (N o2 (N o354 L L) (N o2 L L)))
noncomputable def q29 : BT := N o270 (N (o252 P) (N o99 (N o52 (N o207 L L) L) (N o42 L L)) (N o2 (N o376 L L) (N o187 L L))) (N o353 (N o260 (N o40 L L) (N o302 L L)) (N o219 (N o287 L L) (N o191 L L)))
noncomputable def q30 : BT := N o326 (N o152 (N o380 (N o2 L L) (N o67 L L)) (N o2 (N o254 L L) (N o2 L L))) (N (o149 P) (N o104 (N o2 L L) (N o2 L L)) (N o135 (N o341 L L) (N o332 L L)))
noncomputable def q31 : BT := N (o310 P) (N o165 (N (o383 P) (N o197 (N o204 L L) L) (N o64 L L)) (N o57 (N o94 L L) (N o7 L L))) (N o237 (N o2 (N o7 L L) (N o107 L L)) (N o27 (N o69 L L) (N o248 L L)))
noncomputable def q32 : BT := N o175 (N (o258 P) (N o90 (N o267 L L) (N o2 L L)) (N o2 (N o2 L L) (N o2 L L))) (N o334 (N o2 (N o2 L L) (N o28 L L)) (N o2 (N o295 L L) (N o2 L L)))
noncomputable def q33 : BT := N o395 (N o210 (N o11 (N o268 L L) (N o83 L L)) (N o2 (N o249 L L) (N o212 L L))) (N (o37 P) (N o228 (N o230 L L) (N o293 L L)) (N o68 (N o173 L L) (N o301 L L)))
noncomputable def q34 : BT := N (o315 P) (N o218 (N (o112 P) (N o2 L L) (N o7 L L)) (N o137 (N (o87 P) L L) (N o373 L L))) (N o58 (N o244 (N o190 L L) (N o2 L L)) (N o7 (N (o34 P) L L) (N o7 L L)))
noncomputable def q35 : BT := N (boot_o_5 P) (N (boot_o_9 P) (N o369 (q27 P) (q28 P)) (N o2 (q29 P) (q30 P))) (N o223 (N o352 (q31 P) (q32 P)) (N o2 (q33 P) (q34 P)))
noncomputable def q36 : BT := N o148 (N o231 (N o282 (N o1 (N o33 L L) L) (N o349 L L)) (N o7 (N o2 L L) (N o2 L L))) (N o85 (N o317 (N o2 L L) (N o17 L L)) (N o2 (N o399 L L) (N o2 L L)))
noncomputable def q37 : BT := N o85 (N o297 (N o85 (N o7 L L) (N o200 L L)) (N o276 (N o336 L L) (N o25 L L))) (N o224 (N (o247 P) (N o203 L L) (N o7 L L)) (N o292 (N o7 L L) (N o333 L L)))
noncomputable def q38 : BT := N o176 (N o85 (N o402 (N o49 (N o74 L L) L) (N o7 L L)) (N o387 (N o7 L L) (N o81 L L))) (N o21 (N o313 (N o32 L L) (N o181 L L)) (N o7 (N o195 L L) (N o7 L L)))
noncomputable def q39 : BT := N o364 (N o305 (N o47 (N o46 L L) (N o2 L L)) (N o360 (N o2 L L) (N o405 L L))) (N o85 (N o174 (N o382 L L) (N o5 L L)) (N o2 (N o103 L L) (N o2 L L)))
noncomputable def q40 : BT := N o85 (N o366 (N o85 (N o7 (N (o327 P) L L) L) (N o272 L L)) (N o182 (N o128 L L) (N o2 L L))) (N o300 (N o335 (N o2 L L) (N o7 L L)) (N o139 (N o7 L L) (N o283 L L)))
noncomputable def q41 : BT := N o154 (N o85 (N o377 (N o140 L L) (N o298 L L)) (N o162 (N o251 L L) (N o375 L L))) (N o70 (N o348 (N o215 L L) (N o9 L L)) (N o23 (N o385 L L) (N o367 L L)))
noncomputable def q42 : BT := N o22 (N o357 (N o133 (N o132 L L) (N o56 L L)) (N o3 (N o356 L L) (N o7 L L))) (N o85 (N o55 (N o7 L L) (N o134 L L)) (N o72 (N o390 L L) (N o143 L L)))
noncomputable def q43 : BT := N o85 (N o328 (N o85 (N o161 L L) (N o2 L L)) (N o2 (N o45 L L) (N o2 L L))) (N o108 (N o238 (N o2 L L) (N o157 L L)) (N o2 (N o85 L L) (N o2 L L)))
noncomputable def q44 : BT := N (boot_o_4 P) (N (boot_o_8 P) (N o7 q36 (q37 P)) (N (o372 P) q38 q39)) (N o257 (N o222 (q40 P) q41) (N o172 q42 q43))
noncomputable def q45 : BT := N o63 (N o2 (N o136 (N o150 (N o110 L L) L) (N o2 L L)) (N o2 (N o393 L L) (N o171 L L))) (N o2 (N o2 (N o96 L L) (N o43 L L)) (N (o316 P) (N o120 L L) (N o330 L L)))
noncomputable def q46 : BT := N o2 (N o262 (N o2 (N o2 L L) (N o86 L L)) (N o2 (N o358 L L) (N o2 L L))) (N o2 (N o7 (N o2 L L) (N o2 L L)) (N o50 (N o2 L L) (N o344 L L)))
noncomputable def q47 : BT := N o2 (N o2 (N o2 (N o2 L L) (N o2 L L)) (N o233 (N o2 L L) (N o121 L L))) (N o400 (N (o256 P) (N o119 L L) (N o2 L L)) (N o2 (N o2 L L) (N o2 L L)))
noncomputable def q48 : BT := N o105 (N o2 (N o216 (N o16 L L) (N o232 L L)) (N o7 (N o359 L L) (N o7 L L))) (N o2 (N o2 (N o7 L L) (N o138 L L)) (N o41 (N o185 L L) (N o206 L L)))
noncomputable def q49 : BT := N o2 (N o323 (N o2 (N o2 (N o51 L L) L) (N o166 L L)) (N o2 (N o308 L L) (N o151 L L))) (N o2 (N o331 (N o80 L L) (N o2 L L)) (N o209 (N o2 L L) (N o321 L L)))
noncomputable def q50 : BT := N o2 (N o2 (N o2 (N o2 L L) (N o7 L L)) (N o0 (N o7 L L) (N o26 L L))) (N o170 (N (o396 P) (N o311 L L) (N o2 L L)) (N o7 (N o2 L L) (N o7 L L)))
noncomputable def q51 : BT := N o312 (N o2 (N o239 (N o153 L L) (N o2 L L)) (N o7 (N o2 L L) (N o2 L L))) (N o2 (N o88 (N o2 L L) (N o71 L L)) (N o2 (N o159 L L) (N o2 L L)))
noncomputable def q52 : BT := N o2 (N o324 (N o2 (N o7 L L) (N o291 L L)) (N o75 (N o347 L L) (N o201 L L))) (N o2 (N o350 (N o365 L L) (N o7 L L)) (N o213 (N o2 L L) (N o199 L L)))
noncomputable def q53 : BT := N (boot_o_6 P) (N (boot_o_10 P) (N o2 (q45 P) q46) (N o7 (q47 P) q48)) (N o118 (N o125 q49 (q50 P)) (N (o44 P) q51 q52))
noncomputable def t690 (P : Params) : BT := (N (boot_o_0 P) (N (boot_o_1 P) (q26 P) (q35 P)) (N (boot_o_2 P) (q44 P) (q53 P)))
noncomputable def q54 : BT := N (boot_o_7 P) (N o2 (N o73 (N o7 (N (o111 P) L L) L) (N o88 L L)) (N o88 (N (o156 P) L L) (N o7 L L))) (N o85 (N o7 (N o88 L L) (N (o391 P) L L)) (N (o355 P) (N o7 L L) (N o88 L L)))
noncomputable def q55 : BT := N o2 (N o404 (N o88 (N (o286 P) L L) (N o7 L L)) (N o7 (N o88 L L) (N (o141 P) L L))) (N o193 (N (o378 P) (N o7 L L) (N o88 L L)) (N o88 (N (o401 P) L L) (N o7 L L)))
noncomputable def q56 : BT := N (boot_o_9 P) (N o369 (N o340 (N o60 (N o381 L L) L) (N (o39 P) L L)) (N (o275 P) (N o236 L L) (N o95 L L))) (N o2 (N o270 (N (o252 P) L L) (N o353 L L)) (N o326 (N o152 L L) (N (o149 P) L L)))
noncomputable def q57 : BT := N o223 (N o352 (N (o310 P) (N o165 L L) (N o237 L L)) (N o175 (N (o258 P) L L) (N o334 L L))) (N o2 (N o395 (N o210 L L) (N (o37 P) L L)) (N (o315 P) (N o218 L L) (N o58 L L)))
noncomputable def q58 : BT := N (boot_o_8 P) (N o7 (N o148 (N o231 (N o282 L L) L) (N o85 L L)) (N o85 (N o297 L L) (N o224 L L))) (N (o372 P) (N o176 (N o85 L L) (N o21 L L)) (N o364 (N o305 L L) (N o85 L L)))
noncomputable def q59 : BT := N o318 (N o222 (N o85 (N o366 L L) (N o300 L L)) (N o154 (N o85 L L) (N o70 L L))) (N o172 (N o22 (N o357 L L) (N o85 L L)) (N o85 (N o328 L L) (N o108 L L)))
noncomputable def q60 : BT := N (boot_o_10 P) (N o2 (N o63 (N o2 (N o136 L L) L) (N o2 L L)) (N o2 (N o262 L L) (N o2 L L))) (N o7 (N o2 (N o2 L L) (N o400 L L)) (N o105 (N o2 L L) (N o2 L L)))
noncomputable def q61 : BT := N o118 (N o125 (N o2 (N o323 L L) (N o2 L L)) (N o2 (N o2 L L) (N o170 L L))) (N (o44 P) (N o312 (N o2 L L) (N o2 L L)) (N o2 (N o324 L L) (N o2 L L)))
noncomputable def q62 : BT := N (boot_o_0 P) (N (boot_o_1 P) (N (o309 P) (q54 P) (q55 P)) (N (boot_o_5 P) (q56 P) (q57 P))) (N (boot_o_2 P) (N (boot_o_4 P) (q58 P) q59) (N (boot_o_6 P) (q60 P) (q61 P)))
noncomputable def t190 (P : Params) : BT := (q62 P)
noncomputable def q63 : BT := N o61 (N o7 (N (o111 P) (N o2 L L) L) (N o2 (N o100 L L) L)) (N o88 (N o217 (N o92 L L) L) (N o98 (N o250 L L) L))
noncomputable def q64 : BT := N o88 (N (o156 P) (N o88 (N o2 L L) L) (N o177 (N o7 L L) L)) (N o7 (N o85 (N o19 L L) L) (N o7 (N o2 L L) L))
noncomputable def q65 : BT := N o7 (N o88 (N o7 (N o116 L L) L) (N o7 (N o2 L L) L)) (N (o391 P) (N o242 (N o2 L L) L) (N o2 (N o188 L L) L))
noncomputable def q66 : BT := N (o355 P) (N o7 (N (o289 P) (N o7 L L) L) (N o106 (N o269 L L) L)) (N o88 (N o253 (N o194 L L) L) (N o101 (N o7 L L) L))
noncomputable def q67 : BT := N o88 (N (o286 P) (N o88 (N o2 L L) L) (N o227 (N o2 L L) L)) (N o7 (N o7 (N o38 L L) L) (N o2 (N o2 L L) L))
noncomputable def q68 : BT := N o7 (N o88 (N o7 (N o180 L L) L) (N o7 (N o78 L L) L)) (N (o141 P) (N o54 (N o7 L L) L) (N o62 (N o361 L L) L))
noncomputable def q69 : BT := N (o378 P) (N o7 (N (o109 P) (N o7 L L) L) (N o273 (N o124 L L) L)) (N o88 (N o84 (N o2 L L) L) (N o338 (N o7 L L) L))
noncomputable def q70 : BT := N o88 (N (o401 P) (N o88 (N o126 L L) L) (N o274 (N o155 L L) L)) (N o7 (N o7 (N o211 L L) L) (N o89 L L))
noncomputable def q71 : BT := N (o160 P) (N (boot_o_7 P) (N o2 (q63 P) (q64 P)) (N o85 (q65 P) (q66 P))) (N o2 (N o404 (q67 P) (q68 P)) (N o193 (q69 P) (q70 P)))
noncomputable def q72 : BT := N o340 (N o60 (N o381 (N o370 L L) L) (N o261 (N o7 L L) L)) (N (o39 P) (N o322 (N o277 L L) L) (N o85 (N o14 L L) L))
noncomputable def q73 : BT := N (o275 P) (N o236 (N (o113 P) (N o167 L L) L) (N o320 (N o2 L L) L)) (N o95 (N o2 (N o114 L L) L) (N o2 (N o354 L L) L))
noncomputable def q74 : BT := N o270 (N (o252 P) (N o99 (N o52 L L) L) (N o2 (N o376 L L) L)) (N o353 (N o260 (N o40 L L) L) (N o219 (N o287 L L) L))
noncomputable def q75 : BT := N o326 (N o152 (N o380 (N o2 L L) L) (N o2 (N o254 L L) L)) (N (o149 P) (N o104 (N o2 L L) L) (N o135 (N o341 L L) L))
noncomputable def q76 : BT := N (o310 P) (N o165 (N (o383 P) (N o197 L L) L) (N o57 (N o94 L L) L)) (N o237 (N o2 (N o7 L L) L) (N o27 (N o69 L L) L))
noncomputable def q77 : BT := N o175 (N (o258 P) (N o90 (N o267 L L) L) (N o2 (N o2 L L) L)) (N o334 (N o2 (N o2 L L) L) (N o2 (N o295 L L) L))
noncomputable def q78 : BT := N o395 (N o210 (N o11 (N o268 L L) L) (N o2 (N o249 L L) L)) (N (o37 P) (N o228 (N o230 L L) L) (N o68 (N o173 L L) L))
noncomputable def q79 : BT := N (o315 P) (N o218 (N (o112 P) (N o2 L L) L) (N o137 (N (o87 P) L L) L)) (N o58 (N o244 (N o190 L L) L) (N o7 L L))
noncomputable def q80 : BT := N (boot_o_5 P) (N (boot_o_9 P) (N o369 (q72 P) (q73 P)) (N o2 (q74 P) (q75 P))) (N o223 (N o352 (q76 P) (q77 P)) (N o2 (q78 P) (q79 P)))
noncomputable def q81 : BT := N o148 (N o231 (N o282 (N o1 L L) L) (N o7 (N o2 L L) L)) (N o85 (N o317 (N o2 L L) L) (N o2 (N o399 L L) L))
noncomputable def q82 : BT := N o85 (N o297 (N o85 (N o7 L L) L) (N o276 (N o336 L L) L)) (N o224 (N (o247 P) (N o203 L L) L) (N o292 (N o7 L L) L))
noncomputable def q83 : BT := N o176 (N o85 (N o402 (N o49 L L) L) (N o387 (N o7 L L) L)) (N o21 (N o313 (N o32 L L) L) (N o7 (N o195 L L) L))
noncomputable def q84 : BT := N o364 (N o305 (N o47 (N o46 L L) L) (N o360 (N o2 L L) L)) (N o85 (N o174 (N o382 L L) L) (N o2 (N o103 L L) L))
noncomputable def q85 : BT := N o85 (N o366 (N o85 (N o7 L L) L) (N o182 (N o128 L L) L)) (N o300 (N o335 (N o2 L L) L) (N o139 (N o7 L L) L))
noncomputable def q86 : BT := N o154 (N o85 (N o377 (N o140 L L) L) (N o162 (N o251 L L) L)) (N o70 (N o348 (N o215 L L) L) (N o23 (N o385 L L) L))
noncomputable def q87 : BT := N o22 (N o357 (N o133 (N o132 L L) L) (N o3 (N o356 L L) L)) (N o85 (N o55 (N o7 L L) L) (N o72 (N o390 L L) L))
noncomputable def q88 : BT := N o85 (N o328 (N o85 (N o161 L L) L) (N o2 (N o45 L L) L)) (N o108 (N o238 (N o2 L L) L) (N o2 L L))
noncomputable def q89 : BT := N (boot_o_4 P) (N (boot_o_8 P) (N o7 q81 (q82 P)) (N (o372 P) q83 q84)) (N o30 (N o222 q85 q86) (N o172 q87 q88))
noncomputable def q90 : BT := N o63 (N o2 (N o136 (N o150 L L) L) (N o2 (N o393 L L) L)) (N o2 (N o2 (N o96 L L) L) (N (o316 P) (N o120 L L) L))
noncomputable def q91 : BT := N o2 (N o262 (N o2 (N o2 L L) L) (N o2 (N o358 L L) L)) (N o2 (N o7 (N o2 L L) L) (N o50 (N o2 L L) L))
noncomputable def q92 : BT := N o2 (N o2 (N o2 (N o2 L L) L) (N o233 (N o2 L L) L)) (N o400 (N (o256 P) (N o119 L L) L) (N o2 (N o2 L L) L))
noncomputable def q93 : BT := N o105 (N o2 (N o216 (N o16 L L) L) (N o7 (N o359 L L) L)) (N o2 (N o2 (N o7 L L) L) (N o41 (N o185 L L) L))
noncomputable def q94 : BT := N o2 (N o323 (N o2 (N o2 L L) L) (N o2 (N o308 L L) L)) (N o2 (N o331 (N o80 L L) L) (N o209 (N o2 L L) L))
noncomputable def q95 : BT := N o2 (N o2 (N o2 (N o2 L L) L) (N o0 (N o7 L L) L)) (N o170 (N (o396 P) (N o311 L L) L) (N o7 (N o2 L L) L))
noncomputable def q96 : BT := N o312 (N o2 (N o239 (N o153 L L) L) (N o7 (N o2 L L) L)) (N o2 (N o88 (N o2 L L) L) (N o2 (N o159 L L) L))
noncomputable def q97 : BT := N o2 (N o324 (N o2 (N o7 L L) L) (N o75 (N o347 L L) L)) (N o2 (N o350 (N o365 L L) L) (N o213 L L))
noncomputable def q98 : BT := N (boot_o_6 P) (N (boot_o_10 P) (N o2 (q90 P) q91) (N o7 (q92 P) q93)) (N o118 (N o125 q94 (q95 P)) (N (o44 P) q96 q97))
noncomputable def t545 (P : Params) : BT := (N (boot_o_0 P) (N (boot_o_1 P) (q71 P) (q80 P)) (N (boot_o_2 P) (q89 P) (q98 P)))
noncomputable def q99 : BT := N (o246 P) (N (boot_o_7 P) (N o2 (N o294 L L) L) (N o85 (N o7 L L) L)) (N o2 (N o404 (N o88 L L) L) (N o193 (N (o378 P) L L) L))
noncomputable def q100 : BT := N (boot_o_5 P) (N (boot_o_9 P) (N o369 (N o340 L L) L) (N o2 (N o270 L L) L)) (N o223 (N o352 (N (o310 P) L L) L) (N o2 (N o395 L L) L))
noncomputable def q101 : BT := N (boot_o_4 P) (N (boot_o_8 P) (N o7 (N o148 L L) L) (N (o372 P) (N o176 L L) L)) (N o8 (N o222 (N o85 L L) L) (N o172 (N o22 L L) L))
noncomputable def q102 : BT := N (boot_o_6 P) (N (boot_o_10 P) (N o2 (N o63 L L) L) (N o7 (N o2 L L) L)) (N o118 (N o125 (N o2 L L) L) (N (o44 P) (N o312 L L) L))
noncomputable def t85 (P : Params) : BT := (N (boot_o_0 P) (N (boot_o_1 P) (q99 P) (q100 P)) (N (boot_o_2 P) (q101 P) (q102 P)))
noncomputable def q103 : BT := N (boot_o_7 P) (N o2 (N o290 (N o7 (N (o111 P) L L) L) (N o88 L L)) (N o88 (N (o156 P) (N o88 L L) L) (N o7 L L))) (N o85 (N o7 (N o88 (N o7 L L) L) (N (o391 P) L L)) (N (o355 P) (N o7 (N (o289 P) L L) L) (N o88 L L)))
noncomputable def q104 : BT := N o2 (N o404 (N o88 (N (o286 P) (N o88 L L) L) (N o7 L L)) (N o7 (N o88 (N o7 L L) L) (N (o141 P) L L))) (N o193 (N (o378 P) (N o7 (N (o109 P) L L) L) (N o88 L L)) (N o88 (N (o401 P) L L) (N o7 L L)))
noncomputable def q105 : BT := N (boot_o_9 P) (N o369 (N o340 (N o60 (N o381 L L) L) (N (o39 P) L L)) (N (o275 P) (N o236 (N (o113 P) L L) L) (N o95 L L))) (N o2 (N o270 (N (o252 P) (N o99 L L) L) (N o353 L L)) (N o326 (N o152 (N o380 L L) L) (N (o149 P) L L)))
noncomputable def q106 : BT := N o223 (N o352 (N (o310 P) (N o165 (N (o383 P) L L) L) (N o237 L L)) (N o175 (N (o258 P) (N o90 L L) L) (N o334 L L))) (N o2 (N o395 (N o210 (N o11 L L) L) (N (o37 P) L L)) (N (o315 P) (N o218 L L) (N o58 L L)))
noncomputable def q107 : BT := N (boot_o_8 P) (N o7 (N o148 (N o231 (N o282 L L) L) (N o85 L L)) (N o85 (N o297 (N o85 L L) L) (N o224 L L))) (N (o372 P) (N o176 (N o85 (N o402 L L) L) (N o21 L L)) (N o364 (N o305 (N o47 L L) L) (N o85 L L)))
noncomputable def q108 : BT := N o241 (N o222 (N o85 (N o366 (N o85 L L) L) (N o300 L L)) (N o154 (N o85 (N o377 L L) L) (N o70 L L))) (N o172 (N o22 (N o357 (N o133 L L) L) (N o85 L L)) (N o85 (N o328 L L) (N o108 L L)))
noncomputable def q109 : BT := N (boot_o_10 P) (N o2 (N o63 (N o2 (N o136 L L) L) (N o2 L L)) (N o2 (N o262 (N o2 L L) L) (N o2 L L))) (N o7 (N o2 (N o2 (N o2 L L) L) (N o400 L L)) (N o105 (N o2 (N o216 L L) L) (N o2 L L)))
noncomputable def q110 : BT := N o118 (N o125 (N o2 (N o323 (N o2 L L) L) (N o2 L L)) (N o2 (N o2 (N o2 L L) L) (N o170 L L))) (N (o44 P) (N o312 (N o2 (N o239 L L) L) (N o2 L L)) (N o2 (N o324 L L) (N o2 L L)))
noncomputable def q111 : BT := N (boot_o_0 P) (N (boot_o_1 P) (N (o147 P) (q103 P) (q104 P)) (N (boot_o_5 P) (q105 P) (q106 P))) (N (boot_o_2 P) (N (boot_o_4 P) (q107 P) q108) (N (boot_o_6 P) (q109 P) (q110 P)))
noncomputable def t220 (P : Params) : BT := (q111 P)
noncomputable def q112 : BT := N o2 (N o192 (N o7 (N (o111 P) L L) L) (N o88 (N o217 L L) L)) (N o88 (N (o156 P) (N o88 L L) L) (N o7 L L))
noncomputable def q113 : BT := N o85 (N o7 (N o88 (N o7 L L) L) (N (o391 P) (N o242 L L) L)) (N (o355 P) (N o7 (N (o289 P) L L) L) (N o88 L L))
noncomputable def q114 : BT := N o404 (N o88 (N (o286 P) (N o88 L L) L) (N o7 (N o7 L L) L)) (N o7 (N o88 (N o7 L L) L) (N (o141 P) L L))
noncomputable def q115 : BT := N o193 (N (o378 P) (N o7 (N (o109 P) L L) L) (N o88 (N o84 L L) L)) (N o88 (N (o401 P) (N o88 L L) L) (N o7 L L))
noncomputable def q116 : BT := N o369 (N o340 (N o60 (N o381 L L) L) (N (o39 P) (N o322 L L) L)) (N (o275 P) (N o236 (N (o113 P) L L) L) (N o95 L L))
noncomputable def q117 : BT := N o2 (N o270 (N (o252 P) (N o99 L L) L) (N o353 (N o260 L L) L)) (N o326 (N o152 (N o380 L L) L) (N (o149 P) L L))
noncomputable def q118 : BT := N o352 (N (o310 P) (N o165 (N (o383 P) L L) L) (N o237 (N o2 L L) L)) (N o175 (N (o258 P) (N o90 L L) L) (N o334 L L))
noncomputable def q119 : BT := N o2 (N o395 (N o210 (N o11 L L) L) (N (o37 P) (N o228 L L) L)) (N (o315 P) (N o218 (N (o112 P) L L) L) (N o58 L L))
noncomputable def q120 : BT := N (boot_o_1 P) (N (o186 P) (N (boot_o_7 P) (q112 P) (q113 P)) (N o2 (q114 P) (q115 P))) (N (boot_o_5 P) (N (boot_o_9 P) (q116 P) (q117 P)) (N o223 (q118 P) (q119 P)))
noncomputable def q121 : BT := N o7 (N o148 (N o231 (N o282 L L) L) (N o85 (N o317 L L) L)) (N o85 (N o297 (N o85 L L) L) (N o224 L L))
noncomputable def q122 : BT := N (o372 P) (N o176 (N o85 (N o402 L L) L) (N o21 (N o313 L L) L)) (N o364 (N o305 (N o47 L L) L) (N o85 L L))
noncomputable def q123 : BT := N o222 (N o85 (N o366 (N o85 L L) L) (N o300 (N o335 L L) L)) (N o154 (N o85 (N o377 L L) L) (N o70 L L))
noncomputable def q124 : BT := N o172 (N o22 (N o357 (N o133 L L) L) (N o85 (N o55 L L) L)) (N o85 (N o328 (N o85 L L) L) (N o108 L L))
noncomputable def q125 : BT := N o2 (N o63 (N o2 (N o136 L L) L) (N o2 (N o2 L L) L)) (N o2 (N o262 (N o2 L L) L) (N o2 L L))
noncomputable def q126 : BT := N o7 (N o2 (N o2 (N o2 L L) L) (N o400 (N (o256 P) L L) L)) (N o105 (N o2 (N o216 L L) L) (N o2 L L))
noncomputable def q127 : BT := N o125 (N o2 (N o323 (N o2 L L) L) (N o2 (N o331 L L) L)) (N o2 (N o2 (N o2 L L) L) (N o170 L L))
noncomputable def q128 : BT := N o118 q127 (N (o44 P) (N o312 (N o2 (N o239 L L) L) (N o2 L L)) (N o2 (N o324 (N o2 L L) L) (N o2 L L)))
noncomputable def q129 : BT := N (boot_o_2 P) (N (boot_o_4 P) (N (boot_o_8 P) q121 (q122 P)) (N o158 q123 q124)) (N (boot_o_6 P) (N (boot_o_10 P) q125 (q126 P)) (q128 P))
noncomputable def t242 (P : Params) : BT := (N (boot_o_0 P) (q120 P) (q129 P))
noncomputable def q130 : BT := N (boot_o_7 P) (N o2 (N o18 (N o7 L L) (N o88 L L)) (N o88 (N (o156 P) L L) (N o7 L L))) (N o85 (N o7 (N o88 L L) (N (o391 P) L L)) (N (o355 P) (N o7 L L) L))
noncomputable def q131 : BT := N o2 (N o404 (N o88 (N (o286 P) L L) (N o7 L L)) (N o7 (N o88 L L) (N (o141 P) L L))) (N o193 (N (o378 P) (N o7 L L) (N o88 L L)) (N o88 (N (o401 P) L L) L))
noncomputable def q132 : BT := N (boot_o_9 P) (N o369 (N o340 (N o60 L L) (N (o39 P) L L)) (N (o275 P) (N o236 L L) (N o95 L L))) (N o2 (N o270 (N (o252 P) L L) (N o353 L L)) (N o326 (N o152 L L) L))
noncomputable def q133 : BT := N o223 (N o352 (N (o310 P) (N o165 L L) (N o237 L L)) (N o175 (N (o258 P) L L) (N o334 L L))) (N o2 (N o395 (N o210 L L) (N (o37 P) L L)) (N (o315 P) (N o218 L L) L))
noncomputable def q134 : BT := N (boot_o_8 P) (N o7 (N o148 (N o231 L L) (N o85 L L)) (N o85 (N o297 L L) (N o224 L L))) (N (o372 P) (N o176 (N o85 L L) (N o21 L L)) (N o364 (N o305 L L) L))
noncomputable def q135 : BT := N o379 (N o222 (N o85 (N o366 L L) (N o300 L L)) (N o154 (N o85 L L) (N o70 L L))) (N o172 (N o22 (N o357 L L) (N o85 L L)) (N o85 (N o328 L L) L))
noncomputable def q136 : BT := N (boot_o_10 P) (N o2 (N o63 (N o2 L L) (N o2 L L)) (N o2 (N o262 L L) (N o2 L L))) (N o7 (N o2 (N o2 L L) (N o400 L L)) (N o105 (N o2 L L) L))
noncomputable def q137 : BT := N o118 (N o125 (N o2 (N o323 L L) (N o2 L L)) (N o2 (N o2 L L) (N o170 L L))) (N (o44 P) (N o312 (N o2 L L) (N o2 L L)) (N o2 (N o324 L L) L))
noncomputable def q138 : BT := N (boot_o_0 P) (N (boot_o_1 P) (N (o281 P) (q130 P) (q131 P)) (N (boot_o_5 P) (q132 P) (q133 P))) (N (boot_o_2 P) (N (boot_o_4 P) (q134 P) q135) (N (boot_o_6 P) (q136 P) (q137 P)))
noncomputable def t175 (P : Params) : BT := (q138 P)
noncomputable def q139 : BT := N o2 (N o61 (N o7 (N (o111 P) L L) (N o2 L L)) (N o88 (N o217 L L) L)) (N o88 (N (o156 P) (N o88 L L) (N o177 L L)) (N o7 (N o85 L L) L))
noncomputable def q140 : BT := N o85 (N o7 (N o88 (N o7 L L) (N o7 L L)) (N (o391 P) (N o242 L L) L)) (N (o355 P) (N o7 (N (o289 P) L L) (N o106 L L)) (N o88 (N o253 L L) L))
noncomputable def q141 : BT := N o404 (N o88 (N (o286 P) (N o88 L L) (N o227 L L)) (N o7 (N o7 L L) L)) (N o7 (N o88 (N o7 L L) (N o7 L L)) (N (o141 P) (N o54 L L) L))
noncomputable def q142 : BT := N o193 (N (o378 P) (N o7 (N (o109 P) L L) (N o273 L L)) (N o88 (N o84 L L) L)) (N o88 (N (o401 P) (N o88 L L) L) (N o7 (N o7 L L) L))
noncomputable def q143 : BT := N o369 (N o340 (N o60 (N o381 L L) (N o261 L L)) (N (o39 P) (N o322 L L) L)) (N (o275 P) (N o236 (N (o113 P) L L) (N o320 L L)) (N o95 (N o2 L L) L))
noncomputable def q144 : BT := N o2 (N o270 (N (o252 P) (N o99 L L) (N o2 L L)) (N o353 (N o260 L L) L)) (N o326 (N o152 (N o380 L L) L) (N (o149 P) (N o104 L L) L))
noncomputable def q145 : BT := N o352 (N (o310 P) (N o165 (N (o383 P) L L) (N o57 L L)) (N o237 (N o2 L L) L)) (N o175 (N (o258 P) (N o90 L L) (N o2 L L)) (N o334 (N o2 L L) L))
noncomputable def q146 : BT := N o2 (N o395 (N o210 (N o11 L L) (N o2 L L)) (N (o37 P) (N o228 L L) L)) (N (o315 P) (N o218 (N (o112 P) L L) L) (N o58 (N o244 L L) L))
noncomputable def q147 : BT := N (boot_o_1 P) (N (o12 P) (N (boot_o_7 P) (q139 P) (q140 P)) (N o2 (q141 P) (q142 P))) (N (boot_o_5 P) (N (boot_o_9 P) (q143 P) (q144 P)) (N o223 (q145 P) (q146 P)))
noncomputable def q148 : BT := N o7 (N o148 (N o231 (N o282 L L) (N o7 L L)) (N o85 (N o317 L L) L)) (N o85 (N o297 (N o85 L L) (N o276 L L)) (N o224 (N (o247 P) L L) L))
noncomputable def q149 : BT := N (o372 P) (N o176 (N o85 (N o402 L L) (N o387 L L)) (N o21 (N o313 L L) L)) (N o364 (N o305 (N o47 L L) (N o360 L L)) (N o85 (N o174 L L) L))
noncomputable def q150 : BT := N o222 (N o85 (N o366 (N o85 L L) (N o182 L L)) (N o300 (N o335 L L) L)) (N o154 (N o85 (N o377 L L) (N o162 L L)) (N o70 (N o348 L L) L))
noncomputable def q151 : BT := N o172 (N o22 (N o357 (N o133 L L) (N o3 L L)) (N o85 (N o55 L L) L)) (N o85 (N o328 (N o85 L L) L) (N o108 (N o238 L L) L))
noncomputable def q152 : BT := N o2 (N o63 (N o2 (N o136 L L) (N o2 L L)) (N o2 (N o2 L L) L)) (N o2 (N o262 (N o2 L L) (N o2 L L)) (N o2 (N o7 L L) L))
noncomputable def q153 : BT := N o7 (N o2 (N o2 (N o2 L L) (N o233 L L)) (N o400 (N (o256 P) L L) L)) (N o105 (N o2 (N o216 L L) L) (N o2 (N o2 L L) L))
noncomputable def q154 : BT := N o125 (N o2 (N o323 (N o2 L L) (N o2 L L)) (N o2 (N o331 L L) L)) (N o2 (N o2 (N o2 L L) (N o0 L L)) (N o170 (N (o396 P) L L) L))
noncomputable def q155 : BT := N (o44 P) (N o312 (N o2 (N o239 L L) (N o7 L L)) (N o2 (N o88 L L) L)) (N o2 (N o324 (N o2 L L) L) (N o2 (N o350 L L) L))
noncomputable def q156 : BT := N (boot_o_2 P) (N (boot_o_4 P) (N (boot_o_8 P) (q148 P) (q149 P)) (N o371 q150 q151)) (N (boot_o_6 P) (N (boot_o_10 P) q152 (q153 P)) (N o118 (q154 P) (q155 P)))
noncomputable def t288 (P : Params) : BT := (N (boot_o_0 P) (q147 P) (q156 P))
noncomputable def q157 : BT := N (boot_o_7 P) (N o2 (N o284 (N o7 (N (o111 P) L L) L) (N o88 L L)) (N o88 (N (o156 P) L L) (N o7 L L))) (N o85 (N o7 (N o88 (N o7 L L) L) (N (o391 P) L L)) (N (o355 P) (N o7 L L) (N o88 L L)))
noncomputable def q158 : BT := N o2 (N o404 (N o88 (N (o286 P) (N o88 L L) L) (N o7 L L)) (N o7 (N o88 L L) (N (o141 P) L L))) (N o193 (N (o378 P) (N o7 (N (o109 P) L L) L) (N o88 L L)) (N o88 (N (o401 P) L L) (N o7 L L)))
noncomputable def q159 : BT := N (boot_o_9 P) (N o369 (N o340 (N o60 (N o381 L L) L) (N (o39 P) L L)) (N (o275 P) (N o236 L L) (N o95 L L))) (N o2 (N o270 (N (o252 P) (N o99 L L) L) (N o353 L L)) (N o326 (N o152 L L) (N (o149 P) L L)))
noncomputable def q160 : BT := N o223 (N o352 (N (o310 P) (N o165 (N (o383 P) L L) L) (N o237 L L)) (N o175 (N (o258 P) L L) (N o334 L L))) (N o2 (N o395 (N o210 (N o11 L L) L) (N (o37 P) L L)) (N (o315 P) (N o218 L L) (N o58 L L)))
noncomputable def q161 : BT := N (boot_o_8 P) (N o7 (N o148 (N o231 (N o282 L L) L) (N o85 L L)) (N o85 (N o297 L L) (N o224 L L))) (N (o372 P) (N o176 (N o85 (N o402 L L) L) (N o21 L L)) (N o364 (N o305 L L) (N o85 L L)))
noncomputable def q162 : BT := N o234 (N o222 (N o85 (N o366 (N o85 L L) L) (N o300 L L)) (N o154 (N o85 L L) (N o70 L L))) (N o172 (N o22 (N o357 (N o133 L L) L) (N o85 L L)) (N o85 (N o328 L L) (N o108 L L)))
noncomputable def q163 : BT := N (boot_o_10 P) (N o2 (N o63 (N o2 (N o136 L L) L) (N o2 L L)) (N o2 (N o262 L L) (N o2 L L))) (N o7 (N o2 (N o2 (N o2 L L) L) (N o400 L L)) (N o105 (N o2 L L) (N o2 L L)))
noncomputable def q164 : BT := N o118 (N o125 (N o2 (N o323 (N o2 L L) L) (N o2 L L)) (N o2 (N o2 L L) (N o170 L L))) (N (o44 P) (N o312 (N o2 (N o239 L L) L) (N o2 L L)) (N o2 (N o324 L L) (N o2 L L)))
noncomputable def q165 : BT := N (boot_o_0 P) (N (boot_o_1 P) (N (o240 P) (q157 P) (q158 P)) (N (boot_o_5 P) (q159 P) (q160 P))) (N (boot_o_2 P) (N (boot_o_4 P) (q161 P) q162) (N (boot_o_6 P) (q163 P) (q164 P)))
noncomputable def t205 (P : Params) : BT := (q165 P)
noncomputable def e856_0 (P : Params) (t : List Obj) : List Obj := (boot_o_0 P) :: (boot_o_1 P) :: (boot_o_2 P) :: (o53 P) :: (boot_o_4 P) :: (boot_o_5 P) :: (boot_o_6 P) :: (boot_o_7 P) :: (boot_o_8 P) :: (boot_o_9 P) :: (boot_o_10 P) :: o2 :: o343 :: o223 :: o118 :: t
noncomputable def e856_1 (P : Params) (t : List Obj) : List Obj := o2 :: o7 :: o369 :: o2 :: o404 :: o222 :: o352 :: o125 :: o85 :: (o372 P) :: o2 :: o7 :: o193 :: o172 :: o2 :: t
noncomputable def e856_2 (P : Params) (t : List Obj) : List Obj := (o44 P) :: o61 :: o148 :: o340 :: o63 :: o88 :: o85 :: (o310 P) :: o2 :: o7 :: o176 :: o270 :: o2 :: (o378 P) :: o22 :: t
noncomputable def e856_3 (P : Params) (t : List Obj) : List Obj := o395 :: o312 :: o88 :: o85 :: (o275 P) :: o2 :: o7 :: o154 :: o175 :: o2 :: (o355 P) :: o364 :: o326 :: o105 :: o88 :: t
noncomputable def e856_4 (P : Params) (t : List Obj) : List Obj := o85 :: (o315 P) :: o2 :: o7 :: o231 :: o60 :: o2 :: (o286 P) :: o366 :: o165 :: o323 :: o88 :: o85 :: (o252 P) :: o2 :: t
noncomputable def e856_5 (P : Params) (t : List Obj) : List Obj := o7 :: o357 :: o210 :: o2 :: (o156 P) :: o297 :: o236 :: o262 :: o88 :: o85 :: (o258 P) :: o2 :: o7 :: o305 :: o152 :: t
noncomputable def e856_6 (P : Params) (t : List Obj) : List Obj := o2 :: (o401 P) :: o328 :: o218 :: o324 :: o88 :: o85 :: (o39 P) :: o2 :: o7 :: o300 :: o237 :: o2 :: (o391 P) :: o21 :: t
noncomputable def e856_7 (P : Params) (t : List Obj) : List Obj := o353 :: o400 :: o88 :: o85 :: (o37 P) :: o2 :: o7 :: o224 :: o95 :: o2 :: (o141 P) :: o70 :: o334 :: o170 :: o88 :: t
noncomputable def e856_8 (P : Params) (t : List Obj) : List Obj := o85 :: (o149 P) :: o2 :: o7 :: o108 :: o58 :: o2 :: (o111 P) :: o282 :: o381 :: o136 :: o88 :: o85 :: (o383 P) :: o2 :: t
noncomputable def e856_9 (P : Params) (t : List Obj) : List Obj := o7 :: o402 :: o99 :: o2 :: (o109 P) :: o133 :: o11 :: o239 :: o88 :: o85 :: (o113 P) :: o2 :: o7 :: o377 :: o90 :: t
noncomputable def e856_10 (P : Params) (t : List Obj) : List Obj := o2 :: (o289 P) :: o47 :: o380 :: o216 :: o88 :: o85 :: (o112 P) :: o2 :: o217 :: o317 :: o322 :: o2 :: o7 :: o335 :: t
noncomputable def e856_11 (P : Params) (t : List Obj) : List Obj := o2 :: o331 :: o242 :: o313 :: o260 :: (o256 P) :: o84 :: o55 :: o228 :: o88 :: o85 :: (o247 P) :: o2 :: o7 :: o54 :: t
noncomputable def e856_12 (P : Params) (t : List Obj) : List Obj := o348 :: o2 :: (o396 P) :: o253 :: o174 :: o104 :: o2 :: o7 :: o238 :: o244 :: o350 :: o2 :: o7 :: o261 :: o2 :: t
noncomputable def e856_13 (P : Params) (t : List Obj) : List Obj := o227 :: o182 :: o57 :: o2 :: o7 :: o387 :: o2 :: o233 :: o273 :: o3 :: o2 :: o7 :: o177 :: o276 :: o320 :: t
noncomputable def e856_14 (P : Params) (t : List Obj) : List Obj := o2 :: o7 :: o162 :: o2 :: o0 :: o106 :: o360 :: o2 :: o7 :: o274 :: o2 :: o137 :: o75 :: o98 :: o2 :: t
noncomputable def e856_15 (P : Params) (t : List Obj) : List Obj := o85 :: (o316 P) :: o2 :: o139 :: o27 :: o209 :: o2 :: o7 :: o219 :: o2 :: o338 :: o72 :: o68 :: o2 :: o7 :: t
noncomputable def e856_16 (P : Params) (t : List Obj) : List Obj := o292 :: o2 :: o50 :: o62 :: o23 :: o2 :: o7 :: o101 :: o2 :: o135 :: o41 :: o89 :: o2 :: o7 :: o213 :: t
noncomputable def e856_17 (P : Params) (t : List Obj) : List Obj := o2 :: o1 :: o370 :: o150 :: o2 :: o7 :: o197 :: o2 :: o116 :: o49 :: o52 :: o2 :: o7 :: o132 :: o268 :: t
noncomputable def e856_18 (P : Params) (t : List Obj) : List Obj := o153 :: o2 :: o7 :: o167 :: o2 :: o180 :: o140 :: o267 :: o2 :: o7 :: o46 :: o2 :: o16 :: o126 :: o161 :: t
noncomputable def e856_19 (P : Params) (t : List Obj) : List Obj := o2 :: o7 :: o92 :: o2 :: o277 :: o96 :: o38 :: o2 :: o7 :: o80 :: o2 :: o32 :: o40 :: o119 :: o2 :: t
noncomputable def e856_20 (P : Params) (t : List Obj) : List Obj := o7 :: o230 :: o2 :: o19 :: o203 :: o114 :: o2 :: o7 :: o215 :: o2 :: o311 :: o194 :: o382 :: o2 :: o7 :: t
noncomputable def e856_21 (P : Params) (t : List Obj) : List Obj := o211 :: o2 :: o190 :: o365 :: o100 :: o2 :: o7 :: o393 :: o2 :: o128 :: o94 :: o308 :: o2 :: o7 :: o376 :: t
noncomputable def e856_22 (P : Params) (t : List Obj) : List Obj := o2 :: o124 :: o356 :: o249 :: o2 :: o7 :: o336 :: o2 :: o358 :: o78 :: o251 :: o2 :: o7 :: o269 :: o2 :: t
noncomputable def e856_23 (P : Params) (t : List Obj) : List Obj := o254 :: o359 :: o155 :: o45 :: (o87 P) :: o347 :: o250 :: o399 :: o14 :: o120 :: o2 :: o7 :: o69 :: o2 :: o188 :: t
noncomputable def e856_24 (P : Params) (t : List Obj) : List Obj := o195 :: o287 :: o2 :: o7 :: o390 :: o173 :: o159 :: o2 :: o7 :: o354 :: o2 :: o361 :: o385 :: o295 :: o2 :: t
noncomputable def e856_25 (P : Params) (t : List Obj) : List Obj := o7 :: o103 :: o341 :: o185 :: o2 :: o85 :: (o34 P) :: o2 :: o394 :: o349 :: o123 :: o2 :: o7 :: o272 :: o64 :: t
noncomputable def e856_26 (P : Params) (t : List Obj) : List Obj := o166 :: o2 :: o7 :: o42 :: o2 :: o29 :: o56 :: o83 :: o2 :: o7 :: o200 :: o2 :: o86 :: o4 :: o298 :: t
noncomputable def e856_27 (P : Params) (t : List Obj) : List Obj := o2 :: o7 :: o279 :: o2 :: o67 :: o232 :: o6 :: o2 :: o7 :: o291 :: o2 :: o17 :: o13 :: o43 :: o2 :: t
noncomputable def e856_28 (P : Params) (t : List Obj) : List Obj := o7 :: o107 :: o2 :: o164 :: o181 :: o302 :: o2 :: o7 :: o134 :: o293 :: o71 :: o2 :: o7 :: o245 :: o2 :: t
noncomputable def e856_29 (P : Params) (t : List Obj) : List Obj := o48 :: o9 :: o28 :: o2 :: o7 :: o5 :: o2 :: o138 :: o93 :: o157 :: o2 :: o7 :: o362 :: o2 :: o306 :: t
noncomputable def e856_30 (P : Params) (t : List Obj) : List Obj := o171 :: o115 :: o2 :: o7 :: o151 :: o2 :: o81 :: o187 :: o121 :: o2 :: o7 :: o212 :: o2 :: o389 :: o25 :: t
noncomputable def e856_31 (P : Params) (t : List Obj) : List Obj := o296 :: o2 :: o7 :: o375 :: o2 :: o26 :: o266 :: o405 :: o2 :: o7 :: o346 :: o2 :: o373 :: o201 :: o122 :: t
noncomputable def e856_32 (P : Params) (t : List Obj) : List Obj := o2 :: o7 :: o330 :: o2 :: o283 :: o248 :: o321 :: o2 :: o7 :: o191 :: o2 :: o189 :: o143 :: o301 :: o2 :: t
noncomputable def e856_33 (P : Params) (t : List Obj) : List Obj := o7 :: o333 :: o2 :: o344 :: o388 :: o367 :: o2 :: o7 :: o24 :: o2 :: o332 :: o206 :: o59 :: o2 :: o7 :: t
noncomputable def e856_34 (P : Params) (t : List Obj) : List Obj := o199 :: o2 :: o33 :: o304 :: o110 :: o179 :: (o327 P) :: o204 :: o51 :: o325 :: o74 :: o207 :: o2 :: o7 :: o288 :: t
noncomputable def e856_35 (P : Params) (t : List Obj) : List Obj := o2 :: o345 :: o259 :: o226 :: o2 :: o7 :: o163 :: o2 :: o205 :: o65 :: o303 :: o2 :: o7 :: o214 :: o2 :: t
noncomputable def e856_36 (P : Params) (t : List Obj) : List Obj := o127 :: o285 :: o299 :: o2 :: o7 :: o10 :: o2 :: o178 :: o184 :: o202 :: o2 :: o7 :: o77 :: o35 :: o337 :: t
noncomputable def e856_37 (P : Params) (t : List Obj) : List Obj := o2 :: o7 :: o229 :: o2 :: o280 :: o329 :: o265 :: o2 :: o7 :: o342 :: o339 :: o374 :: o2 :: o7 :: o91 :: t
noncomputable def e856_38 (P : Params) (t : List Obj) : List Obj := o221 :: o131 :: o2 :: o7 :: o398 :: o2 :: o130 :: o392 :: o97 :: o2 :: o7 :: o314 :: o271 :: o263 :: o2 :: t
noncomputable def e856_39 (P : Params) (t : List Obj) : List Obj := o7 :: o36 :: o243 :: o102 :: o2 :: o7 :: o196 :: o2 :: o142 :: o183 :: o129 :: o2 :: o7 :: o79 :: o82 :: t
noncomputable def e856_40 (P : Params) (t : List Obj) : List Obj := o384 :: t
noncomputable def e856 (P : Params) : Heap := ⟨⟨(e856_0 P (e856_1 P (e856_2 P (e856_3 P (e856_4 P (e856_5 P (e856_6 P (e856_7 P (e856_8 P (e856_9 P (e856_10 P (e856_11 P (e856_12 P (e856_13 P (e856_14 P (e856_15 P (e856_16 P (e856_17 P (e856_18 P (e856_19 P (e856_20 P (e856_21 P (e856_22 P (e856_23 P (e856_24 P (e856_25 P (e856_26 P (e856_27 P (e856_28 P (e856_29 P (e856_30 P (e856_31 P (e856_32 P (e856_33 P (e856_34 P (e856_35 P (e856_36 P (e856_37 P (e856_38 P (e856_39 P (e856_40 P [])))))))))))))))))))))))))))))))))))))))))⟩, ⟨[], [], [], 0, [], [], false, #[], [], 0, false, false, false, 0, [2000, 10, 10], false, 0, true, [], [], 0, false⟩⟩
noncomputable def q166 : BT := N (o368 P) (N (boot_o_7 P) (N o2 (N o255 L L) (N o88 L L)) (N o85 (N o7 L L) (N (o355 P) L L))) (N o2 (N o404 (N o88 L L) (N o7 L L)) (N o193 (N (o378 P) L L) L))
noncomputable def q167 : BT := N (boot_o_5 P) (N (boot_o_9 P) (N o369 (N o340 L L) (N (o275 P) L L)) (N o2 (N o270 L L) (N o326 L L))) (N o223 (N o352 (N (o310 P) L L) (N o175 L L)) (N o2 (N o395 L L) L))
noncomputable def q168 : BT := N (boot_o_4 P) (N (boot_o_8 P) (N o7 (N o148 L L) (N o85 L L)) (N (o372 P) (N o176 L L) (N o364 L L))) (N o351 (N o222 (N o85 L L) (N o154 L L)) (N o172 (N o22 L L) L))
noncomputable def q169 : BT := N (boot_o_6 P) (N (boot_o_10 P) (N o2 (N o63 L L) (N o2 L L)) (N o7 (N o2 L L) (N o105 L L))) (N o118 (N o125 (N o2 L L) (N o2 L L)) (N (o44 P) (N o312 L L) L))
noncomputable def t100 (P : Params) : BT := (N (boot_o_0 P) (N (boot_o_1 P) (q166 P) (q167 P)) (N (boot_o_2 P) (q168 P) (q169 P)))
noncomputable def q170 : BT := N (o145 P) (N (boot_o_7 P) (N o2 (N o76 (N o7 L L) L) (N o88 L L)) (N o85 (N o7 L L) (N (o355 P) L L))) (N o2 (N o404 (N o88 (N (o286 P) L L) L) (N o7 L L)) (N o193 (N (o378 P) L L) (N o88 L L)))
noncomputable def q171 : BT := N (boot_o_5 P) (N (boot_o_9 P) (N o369 (N o340 (N o60 L L) L) (N (o275 P) L L)) (N o2 (N o270 L L) (N o326 L L))) (N o223 (N o352 (N (o310 P) (N o165 L L) L) (N o175 L L)) (N o2 (N o395 L L) (N (o315 P) L L)))
noncomputable def q172 : BT := N (boot_o_4 P) (N (boot_o_8 P) (N o7 (N o148 (N o231 L L) L) (N o85 L L)) (N (o372 P) (N o176 L L) (N o364 L L))) (N o278 (N o222 (N o85 (N o366 L L) L) (N o154 L L)) (N o172 (N o22 L L) (N o85 L L)))
noncomputable def q173 : BT := N (boot_o_6 P) (N (boot_o_10 P) (N o2 (N o63 (N o2 L L) L) (N o2 L L)) (N o7 (N o2 L L) (N o105 L L))) (N o118 (N o125 (N o2 (N o323 L L) L) (N o2 L L)) (N (o44 P) (N o312 L L) (N o2 L L)))
noncomputable def t115 (P : Params) : BT := (N (boot_o_0 P) (N (boot_o_1 P) (q170 P) (q171 P)) (N (boot_o_2 P) (q172 P) (q173 P)))
noncomputable def e46_0 (P : Params) (t : List Obj) : List Obj := (boot_o_0 P) :: (boot_o_1 P) :: (boot_o_2 P) :: (boot_o_3 P) :: (boot_o_4 P) :: (boot_o_5 P) :: (boot_o_6 P) :: (boot_o_7 P) :: (boot_o_8 P) :: (boot_o_9 P) :: (boot_o_10 P) :: o2 :: o7 :: o223 :: o118 :: t
noncomputable def e46 (P : Params) : Heap := ⟨⟨(e46_0 P [])⟩, ⟨[], [], [], 0, [], [], false, #[], [], 0, false, false, false, 0, [2000, 10, 10], false, 0, true, [], [], 0, false⟩⟩
noncomputable def q174 : BT := N o61 (N o7 (N (o111 P) (N o2 (N o2 L L) L) (N o394 L L)) (N o2 (N o100 (N o2 L L) L) (N o362 L L))) (N o88 (N o217 (N o92 (N o2 L L) L) (N o2 L L)) (N o98 (N o250 L L) (N o122 L L)))
noncomputable def q175 : BT := N o88 (N (o156 P) (N o88 (N o2 (N o259 L L) L) (N o7 L L)) (N o177 (N o7 (N o196 L L) L) (N o389 L L))) (N o7 (N o85 (N o19 (N o280 L L) L) (N o2 L L)) (N o7 (N o2 L L) (N o7 L L)))
noncomputable def q176 : BT := N o7 (N o88 (N o7 (N o116 (N o325 L L) L) (N o2 L L)) (N o7 (N o2 (N o263 L L) L) (N o2 L L))) (N (o391 P) (N o242 (N o2 (N o7 L L) L) (N o164 L L)) (N o2 (N o188 L L) (N o2 L L)))
noncomputable def q177 : BT := N (o355 P) (N o7 (N (o289 P) (N o7 (N o303 L L) L) (N o279 L L)) (N o106 (N o269 (N o82 L L) L) (N o266 L L))) (N o88 (N o253 (N o194 (N o2 L L) L) (N o7 L L)) (N o101 (N o7 L L) (N o24 L L)))
noncomputable def q178 : BT := N o88 (N (o286 P) (N o88 (N o2 (N o179 L L) L) (N o7 L L)) (N o227 (N o2 (N o2 L L) L) (N o115 L L))) (N o7 (N o7 (N o38 (N o178 L L) L) (N o2 L L)) (N o2 (N o2 L L) (N o2 L L)))
noncomputable def q179 : BT := N o7 (N o88 (N o7 (N o180 (N o163 L L) L) (N o4 L L)) (N o7 (N o78 (N o129 L L) L) (N o7 L L))) (N (o141 P) (N o54 (N o7 (N o7 L L) L) (N o48 L L)) (N o62 (N o361 L L) (N o388 L L)))
noncomputable def q180 : BT := N (o378 P) (N o7 (N (o109 P) (N o7 (N o7 L L) L) (N o29 L L)) (N o273 (N o124 (N o243 L L) L) (N o2 L L))) (N o88 (N o84 (N o2 (N o2 L L) L) (N o7 L L)) (N o338 (N o7 L L) (N o189 L L)))
noncomputable def q181 : BT := N o88 (N (o401 P) (N o88 (N o126 (N o2 L L) L) (N o6 L L)) (N o274 (N o155 L L) (N o346 L L))) (N o7 (N o7 (N o211 (N o131 L L) L) (N o93 L L)) (N o89 (N o2 L L) (N o59 L L)))
noncomputable def q182 : BT := N (o53 P) (N (boot_o_7 P) (N o2 (q174 P) (q175 P)) (N o85 (q176 P) (q177 P))) (N o2 (N o404 (q178 P) (q179 P)) (N o193 (q180 P) (q181 P)))
noncomputable def q183 : BT := N o340 (N o60 (N o381 (N o370 (N o304 L L) L) (N o123 L L)) (N o261 (N o7 (N o392 L L) L) (N o306 L L))) (N (o39 P) (N o322 (N o277 (N o10 L L) L) (N o13 L L)) (N o85 (N o14 L L) (N o7 L L)))
noncomputable def q184 : BT := N (o275 P) (N o236 (N (o113 P) (N o167 (N o2 L L) L) (N o2 L L)) (N o320 (N o2 (N o142 L L) L) (N o296 L L))) (N o95 (N o2 (N o114 (N o265 L L) L) (N o245 L L)) (N o2 (N o354 L L) (N o2 L L)))
noncomputable def q185 : BT := N o270 (N (o252 P) (N o99 (N o52 (N o207 L L) L) (N o42 L L)) (N o2 (N o376 (N o7 L L) L) (N o187 L L))) (N o353 (N o260 (N o40 (N o35 L L) L) (N o302 L L)) (N o219 (N o287 L L) (N o191 L L)))
noncomputable def q186 : BT := N o326 (N o152 (N o380 (N o2 (N o7 L L) L) (N o67 L L)) (N o2 (N o254 L L) (N o2 L L))) (N (o149 P) (N o104 (N o2 (N o91 L L) L) (N o2 L L)) (N o135 (N o341 L L) (N o332 L L)))
noncomputable def q187 : BT := N (o310 P) (N o165 (N (o383 P) (N o197 (N o204 L L) L) (N o64 L L)) (N o57 (N o94 (N o314 L L) L) (N o7 L L))) (N o237 (N o2 (N o7 (N o202 L L) L) (N o107 L L)) (N o27 (N o69 L L) (N o248 L L)))
noncomputable def q188 : BT := N o175 (N (o258 P) (N o90 (N o267 (N o205 L L) L) (N o2 L L)) (N o2 (N o2 (N o7 L L) L) (N o2 L L))) (N o334 (N o2 (N o2 (N o339 L L) L) (N o28 L L)) (N o2 (N o295 L L) (N o2 L L)))
noncomputable def q189 : BT := N o395 (N o210 (N o11 (N o268 (N o2 L L) L) (N o83 L L)) (N o2 (N o249 (N o2 L L) L) (N o212 L L))) (N (o37 P) (N o228 (N o230 (N o229 L L) L) (N o293 L L)) (N o68 (N o173 L L) (N o301 L L)))
noncomputable def q190 : BT := N (o315 P) (N o218 (N (o112 P) (N o2 (N o285 L L) L) (N o7 L L)) (N o137 (N (o87 P) L L) (N o373 L L))) (N o58 (N o244 (N o190 (N o7 L L) L) (N o2 L L)) (N o7 (N (o34 P) L L) (N o7 L L)))
noncomputable def q191 : BT := N (boot_o_5 P) (N (boot_o_9 P) (N o369 (q183 P) (q184 P)) (N o2 (q185 P) (q186 P))) (N o223 (N o352 (q187 P) (q188 P)) (N o2 (q189 P) (q190 P)))
noncomputable def q192 : BT := N o148 (N o231 (N o282 (N o1 (N o33 L L) L) (N o349 L L)) (N o7 (N o2 (N o130 L L) L) (N o2 L L))) (N o85 (N o317 (N o2 (N o7 L L) L) (N o17 L L)) (N o2 (N o399 L L) (N o2 L L)))
noncomputable def q193 : BT := N o85 (N o297 (N o85 (N o7 (N o226 L L) L) (N o200 L L)) (N o276 (N o336 (N o2 L L) L) (N o25 L L))) (N o224 (N (o247 P) (N o203 (N o329 L L) L) (N o7 L L)) (N o292 (N o7 L L) (N o333 L L)))
noncomputable def q194 : BT := N o176 (N o85 (N o402 (N o49 (N o74 L L) L) (N o7 L L)) (N o387 (N o7 (N o2 L L) L) (N o81 L L))) (N o21 (N o313 (N o32 (N o77 L L) L) (N o181 L L)) (N o7 (N o195 L L) (N o7 L L)))
noncomputable def q195 : BT := N o364 (N o305 (N o47 (N o46 (N o2 L L) L) (N o2 L L)) (N o360 (N o2 (N o384 L L) L) (N o405 L L))) (N o85 (N o174 (N o382 (N o7 L L) L) (N o5 L L)) (N o2 (N o103 L L) (N o2 L L)))
noncomputable def q196 : BT := N o85 (N o366 (N o85 (N o7 (N (o327 P) L L) L) (N o272 L L)) (N o182 (N o128 (N o7 L L) L) (N o2 L L))) (N o300 (N o335 (N o2 (N o184 L L) L) (N o7 L L)) (N o139 (N o7 L L) (N o283 L L)))
noncomputable def q197 : BT := N o154 (N o85 (N o377 (N o140 (N o2 L L) L) (N o298 L L)) (N o162 (N o251 (N o2 L L) L) (N o375 L L))) (N o70 (N o348 (N o215 (N o342 L L) L) (N o9 L L)) (N o23 (N o385 L L) (N o367 L L)))
noncomputable def q198 : BT := N o22 (N o357 (N o133 (N o132 (N o288 L L) L) (N o56 L L)) (N o3 (N o356 (N o102 L L) L) (N o7 L L))) (N o85 (N o55 (N o7 (N o7 L L) L) (N o134 L L)) (N o72 (N o390 L L) (N o143 L L)))
noncomputable def q199 : BT := N o85 (N o328 (N o85 (N o161 (N o127 L L) L) (N o2 L L)) (N o2 (N o45 L L) (N o2 L L))) (N o108 (N o238 (N o2 (N o2 L L) L) (N o157 L L)) (N o2 (N o85 L L) (N o2 L L)))
noncomputable def q200 : BT := N (boot_o_4 P) (N (boot_o_8 P) (N o7 q192 (q193 P)) (N (o372 P) q194 q195)) (N o343 (N o222 (q196 P) q197) (N o172 q198 q199))
noncomputable def q201 : BT := N o63 (N o2 (N o136 (N o150 (N o110 L L) L) (N o2 L L)) (N o2 (N o393 (N o97 L L) L) (N o171 L L))) (N o2 (N o2 (N o96 (N o2 L L) L) (N o43 L L)) (N (o316 P) (N o120 L L) (N o330 L L)))
noncomputable def q202 : BT := N o2 (N o262 (N o2 (N o2 (N o7 L L) L) (N o86 L L)) (N o2 (N o358 (N o183 L L) L) (N o2 L L))) (N o2 (N o7 (N o2 (N o2 L L) L) (N o2 L L)) (N o50 (N o2 L L) (N o344 L L)))
noncomputable def q203 : BT := N o2 (N o2 (N o2 (N o2 (N o2 L L) L) (N o2 L L)) (N o233 (N o2 (N o36 L L) L) (N o121 L L))) (N o400 (N (o256 P) (N o119 (N o337 L L) L) (N o2 L L)) (N o2 (N o2 L L) (N o2 L L)))
noncomputable def q204 : BT := N o105 (N o2 (N o216 (N o16 (N o214 L L) L) (N o232 L L)) (N o7 (N o359 L L) (N o7 L L))) (N o2 (N o2 (N o7 (N o221 L L) L) (N o138 L L)) (N o41 (N o185 L L) (N o206 L L)))
noncomputable def q205 : BT := N o2 (N o323 (N o2 (N o2 (N o51 L L) L) (N o166 L L)) (N o2 (N o308 (N o271 L L) L) (N o151 L L))) (N o2 (N o331 (N o80 (N o2 L L) L) (N o2 L L)) (N o209 (N o2 L L) (N o321 L L)))
noncomputable def q206 : BT := N o2 (N o2 (N o2 (N o2 (N o65 L L) L) (N o7 L L)) (N o0 (N o7 (N o79 L L) L) (N o26 L L))) (N o170 (N (o396 P) (N o311 (N o374 L L) L) (N o2 L L)) (N o7 (N o2 L L) (N o7 L L)))
noncomputable def q207 : BT := N o312 (N o2 (N o239 (N o153 (N o345 L L) L) (N o2 L L)) (N o7 (N o2 (N o7 L L) L) (N o2 L L))) (N o2 (N o88 (N o2 (N o2 L L) L) (N o71 L L)) (N o2 (N o159 L L) (N o2 L L)))
noncomputable def q208 : BT := N o2 (N o324 (N o2 (N o7 (N o299 L L) L) (N o291 L L)) (N o75 (N o347 L L) (N o201 L L))) (N o2 (N o350 (N o365 (N o398 L L) L) (N o7 L L)) (N o213 (N o2 L L) (N o199 L L)))
noncomputable def q209 : BT := N (boot_o_6 P) (N (boot_o_10 P) (N o2 (q201 P) q202) (N o7 (q203 P) q204)) (N o118 (N o125 q205 (q206 P)) (N (o44 P) q207 q208))
noncomputable def t855 (P : Params) : BT := (N (boot_o_0 P) (N (boot_o_1 P) (q182 P) (q191 P)) (N (boot_o_2 P) (q200 P) (q209 P)))
noncomputable def q210 : BT := N (boot_o_7 P) (N o2 (N o146 (N o7 L L) L) (N o88 (N (o156 P) L L) L)) (N o85 (N o7 (N o88 L L) L) (N (o355 P) (N o7 L L) L))
noncomputable def q211 : BT := N o2 (N o404 (N o88 (N (o286 P) L L) L) (N o7 (N o88 L L) L)) (N o193 (N (o378 P) (N o7 L L) L) (N o88 (N (o401 P) L L) L))
noncomputable def q212 : BT := N (boot_o_9 P) (N o369 (N o340 (N o60 L L) L) (N (o275 P) (N o236 L L) L)) (N o2 (N o270 (N (o252 P) L L) L) (N o326 (N o152 L L) L))
noncomputable def q213 : BT := N o223 (N o352 (N (o310 P) (N o165 L L) L) (N o175 (N (o258 P) L L) L)) (N o2 (N o395 (N o210 L L) L) (N (o315 P) (N o218 L L) L))
noncomputable def q214 : BT := N (boot_o_8 P) (N o7 (N o148 (N o231 L L) L) (N o85 (N o297 L L) L)) (N (o372 P) (N o176 (N o85 L L) L) (N o364 (N o305 L L) L))
noncomputable def q215 : BT := N o319 (N o222 (N o85 (N o366 L L) L) (N o154 (N o85 L L) L)) (N o172 (N o22 (N o357 L L) L) (N o85 (N o328 L L) L))
noncomputable def q216 : BT := N (boot_o_10 P) (N o2 (N o63 (N o2 L L) L) (N o2 (N o262 L L) L)) (N o7 (N o2 (N o2 L L) L) (N o105 (N o2 L L) L))
noncomputable def q217 : BT := N o118 (N o125 (N o2 (N o323 L L) L) (N o2 (N o2 L L) L)) (N (o44 P) (N o312 (N o2 L L) L) (N o2 (N o324 L L) L))
noncomputable def q218 : BT := N (boot_o_0 P) (N (boot_o_1 P) (N (o15 P) (q210 P) (q211 P)) (N (boot_o_5 P) (q212 P) (q213 P))) (N (boot_o_2 P) (N (boot_o_4 P) (q214 P) q215) (N (boot_o_6 P) (q216 P) (q217 P)))
noncomputable def t145 (P : Params) : BT := (q218 P)
noncomputable def q219 : BT := N o88 (N (o156 P) (N o88 (N o2 L L) L) (N o177 (N o7 L L) L)) (N o7 (N o85 (N o19 L L) L) (N o7 L L))
noncomputable def q220 : BT := N o7 (N o88 (N o7 (N o116 L L) L) (N o7 (N o2 L L) L)) (N (o391 P) (N o242 (N o2 L L) L) (N o2 L L))
noncomputable def q221 : BT := N (o355 P) (N o7 (N (o289 P) (N o7 L L) L) (N o106 (N o269 L L) L)) (N o88 (N o253 (N o194 L L) L) (N o101 L L))
noncomputable def q222 : BT := N o88 (N (o286 P) (N o88 (N o2 L L) L) (N o227 (N o2 L L) L)) (N o7 (N o7 (N o38 L L) L) (N o2 L L))
noncomputable def q223 : BT := N o7 (N o88 (N o7 (N o180 L L) L) (N o7 (N o78 L L) L)) (N (o141 P) (N o54 (N o7 L L) L) (N o62 L L))
noncomputable def q224 : BT := N (o378 P) (N o7 (N (o109 P) (N o7 L L) L) (N o273 (N o124 L L) L)) (N o88 (N o84 (N o2 L L) L) (N o338 L L))
noncomputable def q225 : BT := N (o386 P) (N (boot_o_7 P) (N o2 (q63 P) (q219 P)) (N o85 (q220 P) (q221 P))) (N o2 (N o404 (q222 P) (q223 P)) (N o193 (q224 P) (q70 P)))
noncomputable def q226 : BT := N (o275 P) (N o236 (N (o113 P) (N o167 L L) L) (N o320 (N o2 L L) L)) (N o95 (N o2 (N o114 L L) L) (N o2 L L))
noncomputable def q227 : BT := N o270 (N (o252 P) (N o99 (N o52 L L) L) (N o2 (N o376 L L) L)) (N o353 (N o260 (N o40 L L) L) (N o219 L L))
noncomputable def q228 : BT := N o326 (N o152 (N o380 (N o2 L L) L) (N o2 (N o254 L L) L)) (N (o149 P) (N o104 (N o2 L L) L) (N o135 L L))
noncomputable def q229 : BT := N (o310 P) (N o165 (N (o383 P) (N o197 L L) L) (N o57 (N o94 L L) L)) (N o237 (N o2 (N o7 L L) L) (N o27 L L))
noncomputable def q230 : BT := N o175 (N (o258 P) (N o90 (N o267 L L) L) (N o2 (N o2 L L) L)) (N o334 (N o2 (N o2 L L) L) (N o2 L L))
noncomputable def q231 : BT := N o395 (N o210 (N o11 (N o268 L L) L) (N o2 (N o249 L L) L)) (N (o37 P) (N o228 (N o230 L L) L) (N o68 L L))
noncomputable def q232 : BT := N (boot_o_5 P) (N (boot_o_9 P) (N o369 (q72 P) (q226 P)) (N o2 (q227 P) (q228 P))) (N o223 (N o352 (q229 P) (q230 P)) (N o2 (q231 P) (q79 P)))
noncomputable def q233 : BT := N o85 (N o297 (N o85 (N o7 L L) L) (N o276 (N o336 L L) L)) (N o224 (N (o247 P) (N o203 L L) L) (N o292 L L))
noncomputable def q234 : BT := N o176 (N o85 (N o402 (N o49 L L) L) (N o387 (N o7 L L) L)) (N o21 (N o313 (N o32 L L) L) (N o7 L L))
noncomputable def q235 : BT := N o364 (N o305 (N o47 (N o46 L L) L) (N o360 (N o2 L L) L)) (N o85 (N o174 (N o382 L L) L) (N o2 L L))
noncomputable def q236 : BT := N o85 (N o366 (N o85 (N o7 L L) L) (N o182 (N o128 L L) L)) (N o300 (N o335 (N o2 L L) L) (N o139 L L))
noncomputable def q237 : BT := N o154 (N o85 (N o377 (N o140 L L) L) (N o162 (N o251 L L) L)) (N o70 (N o348 (N o215 L L) L) (N o23 L L))
noncomputable def q238 : BT := N o22 (N o357 (N o133 (N o132 L L) L) (N o3 (N o356 L L) L)) (N o85 (N o55 (N o7 L L) L) (N o72 L L))
noncomputable def q239 : BT := N (boot_o_4 P) (N (boot_o_8 P) (N o7 q81 (q233 P)) (N (o372 P) q234 q235)) (N o169 (N o222 q236 q237) (N o172 q238 q88))
noncomputable def q240 : BT := N o2 (N o262 (N o2 (N o2 L L) L) (N o2 (N o358 L L) L)) (N o2 (N o7 (N o2 L L) L) (N o50 L L))
noncomputable def q241 : BT := N o2 (N o2 (N o2 (N o2 L L) L) (N o233 (N o2 L L) L)) (N o400 (N (o256 P) (N o119 L L) L) (N o2 L L))
noncomputable def q242 : BT := N o105 (N o2 (N o216 (N o16 L L) L) (N o7 (N o359 L L) L)) (N o2 (N o2 (N o7 L L) L) (N o41 L L))
noncomputable def q243 : BT := N o2 (N o323 (N o2 (N o2 L L) L) (N o2 (N o308 L L) L)) (N o2 (N o331 (N o80 L L) L) (N o209 L L))
noncomputable def q244 : BT := N o2 (N o2 (N o2 (N o2 L L) L) (N o0 (N o7 L L) L)) (N o170 (N (o396 P) (N o311 L L) L) (N o7 L L))
noncomputable def q245 : BT := N o312 (N o2 (N o239 (N o153 L L) L) (N o7 (N o2 L L) L)) (N o2 (N o88 (N o2 L L) L) (N o2 L L))
noncomputable def q246 : BT := N (boot_o_6 P) (N (boot_o_10 P) (N o2 (q90 P) q240) (N o7 (q241 P) q242)) (N o118 (N o125 q243 (q244 P)) (N (o44 P) q245 q97))
noncomputable def t430 (P : Params) : BT := (N (boot_o_0 P) (N (boot_o_1 P) (q225 P) (q232 P)) (N (boot_o_2 P) (q239 P) (q246 P)))
noncomputable def q247 : BT := N o2 (N o61 (N o7 (N (o111 P) L L) (N o2 L L)) (N o88 (N o217 L L) (N o98 L L))) (N o88 (N (o156 P) (N o88 L L) (N o177 L L)) (N o7 (N o85 L L) L))
noncomputable def q248 : BT := N o193 (N (o378 P) (N o7 (N (o109 P) L L) (N o273 L L)) (N o88 (N o84 L L) L)) (N o88 (N (o401 P) (N o88 L L) (N o274 L L)) (N o7 (N o7 L L) L))
noncomputable def q249 : BT := N o2 (N o270 (N (o252 P) (N o99 L L) (N o2 L L)) (N o353 (N o260 L L) L)) (N o326 (N o152 (N o380 L L) (N o2 L L)) (N (o149 P) (N o104 L L) L))
noncomputable def q250 : BT := N o2 (N o395 (N o210 (N o11 L L) (N o2 L L)) (N (o37 P) (N o228 L L) L)) (N (o315 P) (N o218 (N (o112 P) L L) (N o137 L L)) (N o58 (N o244 L L) L))
noncomputable def q251 : BT := N (boot_o_1 P) (N (o117 P) (N (boot_o_7 P) (q247 P) (q140 P)) (N o2 (q141 P) (q248 P))) (N (boot_o_5 P) (N (boot_o_9 P) (q143 P) (q249 P)) (N o223 (q145 P) (q250 P)))
noncomputable def q252 : BT := N o172 (N o22 (N o357 (N o133 L L) (N o3 L L)) (N o85 (N o55 L L) L)) (N o85 (N o328 (N o85 L L) (N o2 L L)) (N o108 (N o238 L L) L))
noncomputable def q253 : BT := N o7 (N o2 (N o2 (N o2 L L) (N o233 L L)) (N o400 (N (o256 P) L L) L)) (N o105 (N o2 (N o216 L L) (N o7 L L)) (N o2 (N o2 L L) L))
noncomputable def q254 : BT := N (o44 P) (N o312 (N o2 (N o239 L L) (N o7 L L)) (N o2 (N o88 L L) L)) (N o2 (N o324 (N o2 L L) (N o75 L L)) (N o2 (N o350 L L) L))
noncomputable def q255 : BT := N (boot_o_2 P) (N (boot_o_4 P) (N (boot_o_8 P) (q148 P) (q149 P)) (N o31 q150 q252)) (N (boot_o_6 P) (N (boot_o_10 P) q152 (q253 P)) (N o118 (q154 P) (q254 P)))
noncomputable def t297 (P : Params) : BT := (N (boot_o_0 P) (q251 P) (q255 P))
noncomputable def q256 : BT := N (boot_o_7 P) (N o2 (N o66 (N o7 L L) (N o88 L L)) (N o88 (N (o156 P) L L) L)) (N o85 (N o7 (N o88 L L) (N (o391 P) L L)) (N (o355 P) (N o7 L L) L))
noncomputable def q257 : BT := N o2 (N o404 (N o88 (N (o286 P) L L) (N o7 L L)) (N o7 (N o88 L L) L)) (N o193 (N (o378 P) (N o7 L L) L) (N o88 (N (o401 P) L L) L))
noncomputable def q258 : BT := N (boot_o_9 P) (N o369 (N o340 (N o60 L L) (N (o39 P) L L)) (N (o275 P) (N o236 L L) L)) (N o2 (N o270 (N (o252 P) L L) (N o353 L L)) (N o326 (N o152 L L) L))
noncomputable def q259 : BT := N o223 (N o352 (N (o310 P) (N o165 L L) (N o237 L L)) (N o175 (N (o258 P) L L) L)) (N o2 (N o395 (N o210 L L) L) (N (o315 P) (N o218 L L) L))
noncomputable def q260 : BT := N (boot_o_8 P) (N o7 (N o148 (N o231 L L) (N o85 L L)) (N o85 (N o297 L L) L)) (N (o372 P) (N o176 (N o85 L L) (N o21 L L)) (N o364 (N o305 L L) L))
noncomputable def q261 : BT := N o208 (N o222 (N o85 (N o366 L L) (N o300 L L)) (N o154 (N o85 L L) L)) (N o172 (N o22 (N o357 L L) L) (N o85 (N o328 L L) L))
noncomputable def q262 : BT := N (boot_o_10 P) (N o2 (N o63 (N o2 L L) (N o2 L L)) (N o2 (N o262 L L) L)) (N o7 (N o2 (N o2 L L) (N o400 L L)) (N o105 (N o2 L L) L))
noncomputable def q263 : BT := N o118 (N o125 (N o2 (N o323 L L) (N o2 L L)) (N o2 (N o2 L L) L)) (N (o44 P) (N o312 (N o2 L L) L) (N o2 (N o324 L L) L))
noncomputable def q264 : BT := N (boot_o_0 P) (N (boot_o_1 P) (N (o403 P) (q256 P) (q257 P)) (N (boot_o_5 P) (q258 P) (q259 P))) (N (boot_o_2 P) (N (boot_o_4 P) (q260 P) q261) (N (boot_o_6 P) (q262 P) (q263 P)))
noncomputable def t160 (P : Params) : BT := (q264 P)
noncomputable def q265 : BT := N (boot_o_7 P) (N o2 (N o397 (N o7 L L) L) (N o88 (N (o156 P) L L) L)) (N o85 (N o7 (N o88 L L) L) (N (o355 P) L L))
noncomputable def q266 : BT := N (o220 P) (q265 P) (N o2 (N o404 (N o88 (N (o286 P) L L) L) (N o7 L L)) (N o193 (N (o378 P) (N o7 L L) L) (N o88 L L)))
noncomputable def q267 : BT := N (boot_o_9 P) (N o369 (N o340 (N o60 L L) L) (N (o275 P) (N o236 L L) L)) (N o2 (N o270 (N (o252 P) L L) L) (N o326 L L))
noncomputable def q268 : BT := N (boot_o_5 P) (q267 P) (N o223 (N o352 (N (o310 P) (N o165 L L) L) (N o175 L L)) (N o2 (N o395 (N o210 L L) L) (N (o315 P) L L)))
noncomputable def q269 : BT := N (boot_o_8 P) (N o7 (N o148 (N o231 L L) L) (N o85 (N o297 L L) L)) (N (o372 P) (N o176 (N o85 L L) L) (N o364 L L))
noncomputable def q270 : BT := N (boot_o_4 P) (q269 P) (N o144 (N o222 (N o85 (N o366 L L) L) (N o154 L L)) (N o172 (N o22 (N o357 L L) L) (N o85 L L)))
noncomputable def q271 : BT := N (boot_o_10 P) (N o2 (N o63 (N o2 L L) L) (N o2 (N o262 L L) L)) (N o7 (N o2 (N o2 L L) L) (N o105 L L))
noncomputable def q272 : BT := N (boot_o_6 P) (q271 P) (N o118 (N o125 (N o2 (N o323 L L) L) (N o2 L L)) (N (o44 P) (N o312 (N o2 L L) L) (N o2 L L)))
noncomputable def t130 (P : Params) : BT := (N (boot_o_0 P) (N (boot_o_1 P) (q266 P) (q268 P)) (N (boot_o_2 P) (q270 P) (q272 P)))
noncomputable def q273 : BT := N o61 (N o7 (N (o111 P) (N o2 L L) (N o198 L L)) (N o2 (N o100 L L) (N o362 L L))) (N o88 (N o217 (N o92 L L) (N o2 L L)) (N o98 (N o250 L L) L))
noncomputable def q274 : BT := N o88 (N (o156 P) (N o88 (N o2 L L) (N o7 L L)) (N o177 (N o7 L L) L)) (N o7 (N o85 (N o19 L L) (N o2 L L)) (N o7 (N o2 L L) L))
noncomputable def q275 : BT := N o7 (N o88 (N o7 (N o116 L L) (N o2 L L)) (N o7 (N o2 L L) (N o2 L L))) (N (o391 P) (N o242 (N o2 L L) (N o164 L L)) (N o2 (N o188 L L) L))
noncomputable def q276 : BT := N (o355 P) (N o7 (N (o289 P) (N o7 L L) (N o279 L L)) (N o106 (N o269 L L) L)) (N o88 (N o253 (N o194 L L) (N o7 L L)) (N o101 (N o7 L L) L))
noncomputable def q277 : BT := N o88 (N (o286 P) (N o88 (N o2 L L) (N o7 L L)) (N o227 (N o2 L L) (N o115 L L))) (N o7 (N o7 (N o38 L L) (N o2 L L)) (N o2 (N o2 L L) L))
noncomputable def q278 : BT := N o7 (N o88 (N o7 (N o180 L L) (N o4 L L)) (N o7 (N o78 L L) L)) (N (o141 P) (N o54 (N o7 L L) (N o48 L L)) (N o62 (N o361 L L) L))
noncomputable def q279 : BT := N (o378 P) (N o7 (N (o109 P) (N o7 L L) (N o29 L L)) (N o273 (N o124 L L) L)) (N o88 (N o84 (N o2 L L) (N o7 L L)) (N o338 (N o7 L L) L))
noncomputable def q280 : BT := N o88 (N (o401 P) (N o88 (N o126 L L) (N o6 L L)) (N o274 (N o155 L L) L)) (N o7 (N o7 (N o211 L L) (N o93 L L)) (N o89 (N o2 L L) L))
noncomputable def q281 : BT := N (o160 P) (N (boot_o_7 P) (N o2 (q273 P) (q274 P)) (N o85 (q275 P) (q276 P))) (N o2 (N o404 (q277 P) (q278 P)) (N o193 (q279 P) (q280 P)))
noncomputable def q282 : BT := N o340 (N o60 (N o381 (N o370 L L) (N o123 L L)) (N o261 (N o7 L L) (N o306 L L))) (N (o39 P) (N o322 (N o277 L L) (N o13 L L)) (N o85 (N o14 L L) L))
noncomputable def q283 : BT := N (o275 P) (N o236 (N (o113 P) (N o167 L L) (N o2 L L)) (N o320 (N o2 L L) L)) (N o95 (N o2 (N o114 L L) (N o245 L L)) (N o2 (N o354 L L) L))
noncomputable def q284 : BT := N o270 (N (o252 P) (N o99 (N o52 L L) (N o42 L L)) (N o2 (N o376 L L) (N o187 L L))) (N o353 (N o260 (N o40 L L) (N o302 L L)) (N o219 (N o287 L L) L))
noncomputable def q285 : BT := N o326 (N o152 (N o380 (N o2 L L) (N o67 L L)) (N o2 (N o254 L L) L)) (N (o149 P) (N o104 (N o2 L L) (N o2 L L)) (N o135 (N o341 L L) L))
noncomputable def q286 : BT := N (o310 P) (N o165 (N (o383 P) (N o197 L L) (N o64 L L)) (N o57 (N o94 L L) (N o7 L L))) (N o237 (N o2 (N o7 L L) (N o107 L L)) (N o27 (N o69 L L) L))
noncomputable def q287 : BT := N o175 (N (o258 P) (N o90 (N o267 L L) (N o2 L L)) (N o2 (N o2 L L) L)) (N o334 (N o2 (N o2 L L) (N o28 L L)) (N o2 (N o295 L L) L))
noncomputable def q288 : BT := N o395 (N o210 (N o11 (N o268 L L) (N o83 L L)) (N o2 (N o249 L L) L)) (N (o37 P) (N o228 (N o230 L L) (N o293 L L)) (N o68 (N o173 L L) L))
noncomputable def q289 : BT := N (o315 P) (N o218 (N (o112 P) (N o2 L L) (N o7 L L)) (N o137 (N (o87 P) L L) L)) (N o58 (N o244 (N o190 L L) (N o2 L L)) (N o7 (N (o235 P) L L) L))
noncomputable def q290 : BT := N (boot_o_5 P) (N (boot_o_9 P) (N o369 (q282 P) (q283 P)) (N o2 (q284 P) (q285 P))) (N o223 (N o352 (q286 P) (q287 P)) (N o2 (q288 P) (q289 P)))
noncomputable def q291 : BT := N o148 (N o231 (N o282 (N o1 L L) (N o349 L L)) (N o7 (N o2 L L) (N o2 L L))) (N o85 (N o317 (N o2 L L) (N o17 L L)) (N o2 (N o399 L L) L))
noncomputable def q292 : BT := N o85 (N o297 (N o85 (N o7 L L) (N o200 L L)) (N o276 (N o336 L L) L)) (N o224 (N (o247 P) (N o203 L L) (N o7 L L)) (N o292 (N o7 L L) L))
noncomputable def q293 : BT := N o176 (N o85 (N o402 (N o49 L L) (N o7 L L)) (N o387 (N o7 L L) (N o81 L L))) (N o21 (N o313 (N o32 L L) (N o181 L L)) (N o7 (N o195 L L) L))
noncomputable def q294 : BT := N o364 (N o305 (N o47 (N o46 L L) (N o2 L L)) (N o360 (N o2 L L) L)) (N o85 (N o174 (N o382 L L) (N o5 L L)) (N o2 (N o103 L L) L))
noncomputable def q295 : BT := N o85 (N o366 (N o85 (N o7 L L) (N o272 L L)) (N o182 (N o128 L L) (N o2 L L))) (N o300 (N o335 (N o2 L L) (N o7 L L)) (N o139 (N o7 L L) L))
noncomputable def q296 : BT := N o154 (N o85 (N o377 (N o140 L L) (N o298 L L)) (N o162 (N o251 L L) L)) (N o70 (N o348 (N o215 L L) (N o9 L L)) (N o23 (N o385 L L) L))
noncomputable def q297 : BT := N o22 (N o357 (N o133 (N o132 L L) (N o56 L L)) (N o3 (N o356 L L) L)) (N o85 (N o55 (N o7 L L) (N o134 L L)) (N o72 (N o390 L L) L))
noncomputable def q298 : BT := N o85 (N o328 (N o85 (N o161 L L) (N o2 L L)) (N o2 (N o45 L L) L)) (N o108 (N o238 (N o2 L L) (N o157 L L)) (N o2 (N o85 L L) L))
noncomputable def q299 : BT := N (boot_o_4 P) (N (boot_o_8 P) (N o7 q291 (q292 P)) (N (o372 P) q293 q294)) (N o257 (N o222 q295 q296) (N o172 q297 q298))
noncomputable def q300 : BT := N o63 (N o2 (N o136 (N o150 L L) (N o2 L L)) (N o2 (N o393 L L) (N o171 L L))) (N o2 (N o2 (N o96 L L) (N o43 L L)) (N (o316 P) (N o120 L L) L))
noncomputable def q301 : BT := N o2 (N o262 (N o2 (N o2 L L) (N o86 L L)) (N o2 (N o358 L L) L)) (N o2 (N o7 (N o2 L L) (N o2 L L)) (N o50 (N o2 L L) L))
noncomputable def q302 : BT := N o2 (N o2 (N o2 (N o2 L L) (N o2 L L)) (N o233 (N o2 L L) (N o121 L L))) (N o400 (N (o256 P) (N o119 L L) (N o2 L L)) (N o2 (N o2 L L) L))
noncomputable def q303 : BT := N o105 (N o2 (N o216 (N o16 L L) (N o232 L L)) (N o7 (N o359 L L) L)) (N o2 (N o2 (N o7 L L) (N o138 L L)) (N o41 (N o185 L L) L))
noncomputable def q304 : BT := N o2 (N o323 (N o2 (N o2 L L) (N o166 L L)) (N o2 (N o308 L L) (N o151 L L))) (N o2 (N o331 (N o80 L L) (N o2 L L)) (N o209 (N o2 L L) L))
noncomputable def q305 : BT := N o2 (N o2 (N o2 (N o2 L L) (N o7 L L)) (N o0 (N o7 L L) L)) (N o170 (N (o396 P) (N o311 L L) (N o2 L L)) (N o7 (N o2 L L) L))
noncomputable def q306 : BT := N o312 (N o2 (N o239 (N o153 L L) (N o2 L L)) (N o7 (N o2 L L) L)) (N o2 (N o88 (N o2 L L) (N o71 L L)) (N o2 (N o159 L L) L))
noncomputable def q307 : BT := N o2 (N o324 (N o2 (N o7 L L) (N o291 L L)) (N o75 (N o347 L L) L)) (N o2 (N o350 (N o365 L L) (N o7 L L)) (N o213 (N o2 L L) L))
noncomputable def q308 : BT := N (boot_o_6 P) (N (boot_o_10 P) (N o2 (q300 P) q301) (N o7 (q302 P) q303)) (N o118 (N o125 q304 (q305 P)) (N (o44 P) q306 q307))
noncomputable def t771 (P : Params) : BT := (N (boot_o_0 P) (N (boot_o_1 P) (q281 P) (q290 P)) (N (boot_o_2 P) (q299 P) (q308 P)))
noncomputable def q309 : BT := N (boot_o_1 P) (N (o168 P) (N (boot_o_7 P) (N o2 (N o363 L L) L) (N o85 L L)) (N o2 (N o404 L L) (N o193 L L))) (N (boot_o_5 P) (N (boot_o_9 P) (N o369 (N o340 L L) L) (N o2 L L)) (N o223 (N o352 L L) (N o2 L L)))
noncomputable def q310 : BT := N (boot_o_2 P) (N (boot_o_4 P) (N (boot_o_8 P) (N o7 (N o148 L L) L) (N (o372 P) L L)) (N o20 (N o222 L L) (N o172 L L))) (N (boot_o_6 P) (N (boot_o_10 P) (N o2 (N o63 L L) L) (N o7 L L)) (N o118 (N o125 L L) (N (o44 P) L L)))
noncomputable def t70 (P : Params) : BT := (N (boot_o_0 P) (q309 P) (q310 P))
noncomputable def q311 : BT := N (boot_o_0 P) (N (boot_o_1 P) (N (boot_o_3 P) (N (boot_o_7 P) L L) (N o2 L L)) (N (boot_o_5 P) (N (boot_o_9 P) L L) (N o223 L L))) (N (boot_o_2 P) (N (boot_o_4 P) (N (boot_o_8 P) L L) (N o7 L L)) (N (boot_o_6 P) (N (boot_o_10 P) L L) (N o118 L L)))
noncomputable def t47 (P : Params) : BT := (q311 P)
noncomputable def vw : Program := PySem.W.view PySem.Challenge.pw_treeright_k21_houses_made [0, 2, 3, 4, 5, 6, 7, 8, 9, 10, 11, 12, 13, 14, 16, 17, 18, 19, 20, 21, 22, 24, 25, 27, 28, 29, 30, 31, 33, 34, 35, 36, 37, 38, 39, 40, 41, 42, 43, 44, 45]
noncomputable def s49 : List Stmt := (PySem.Challenge.pw_treeright_k21_houses_made.main.body.drop 0).take 3
noncomputable def s71 : List Stmt := (PySem.Challenge.pw_treeright_k21_houses_made.main.body.drop 3).take 1
noncomputable def s86 : List Stmt := (PySem.Challenge.pw_treeright_k21_houses_made.main.body.drop 4).take 1
noncomputable def s101 : List Stmt := (PySem.Challenge.pw_treeright_k21_houses_made.main.body.drop 5).take 1
noncomputable def s116 : List Stmt := (PySem.Challenge.pw_treeright_k21_houses_made.main.body.drop 6).take 1
noncomputable def s131 : List Stmt := (PySem.Challenge.pw_treeright_k21_houses_made.main.body.drop 7).take 1
noncomputable def s146 : List Stmt := (PySem.Challenge.pw_treeright_k21_houses_made.main.body.drop 8).take 1
noncomputable def s161 : List Stmt := (PySem.Challenge.pw_treeright_k21_houses_made.main.body.drop 9).take 1
noncomputable def s176 : List Stmt := (PySem.Challenge.pw_treeright_k21_houses_made.main.body.drop 10).take 1
noncomputable def s191 : List Stmt := (PySem.Challenge.pw_treeright_k21_houses_made.main.body.drop 11).take 1
noncomputable def s206 : List Stmt := (PySem.Challenge.pw_treeright_k21_houses_made.main.body.drop 12).take 1
noncomputable def s221 : List Stmt := (PySem.Challenge.pw_treeright_k21_houses_made.main.body.drop 13).take 1
noncomputable def s243 : List Stmt := (PySem.Challenge.pw_treeright_k21_houses_made.main.body.drop 14).take 10
noncomputable def s289 : List Stmt := (PySem.Challenge.pw_treeright_k21_houses_made.main.body.drop 24).take 1
noncomputable def s298 : List Stmt := (PySem.Challenge.pw_treeright_k21_houses_made.main.body.drop 25).take 1
noncomputable def s520 : List Stmt := (PySem.Challenge.pw_treeright_k21_houses_made.main.body.drop 26).take 5
noncomputable def s546 : List Stmt := (PySem.Challenge.pw_treeright_k21_houses_made.main.body.drop 31).take 1
noncomputable def s775 : List Stmt := (PySem.Challenge.pw_treeright_k21_houses_made.main.body.drop 32).take 14
end HD
end
noncomputable def PySem.W.Fast.tw14598715356260435866 : Unit := ()
noncomputable def PySem.W.Fast.tw12831946366807014121 : Unit := ()
noncomputable def PySem.W.Fast.tw2505294214074580061 : Unit := ()
noncomputable def PySem.W.Fast.tw1184825839854068080 : Unit := ()
noncomputable def PySem.W.Fast.tw16963627058361203756 : Unit := ()
noncomputable def PySem.W.Fast.tw4063309880790847132 : Unit := ()
noncomputable def PySem.W.Fast.tw16335552587211677449 : Unit := ()
noncomputable def PySem.W.Fast.tw1921148480499289173 : Unit := ()
noncomputable def PySem.W.Fast.tw8219606844568596651 : Unit := ()
noncomputable def PySem.W.Fast.tw1564543192828473526 : Unit := ()
noncomputable def PySem.W.Fast.tw9434032782923581289 : Unit := ()
noncomputable def PySem.W.Fast.tw3094701115853657799 : Unit := ()
lay_quick PySem.Challenge.pw_treeright_k21_houses_made
lay_quick HD.t516
lay_quick HD.t690
lay_quick HD.t190
lay_quick HD.t545
lay_quick HD.t85
lay_quick HD.t220
lay_quick HD.t242
lay_quick HD.t175
lay_quick HD.t288
lay_quick HD.t205
lay_quick HD.e856
lay_quick HD.t100
lay_quick HD.t115
lay_quick HD.e46
lay_quick HD.t855
lay_quick HD.t145
lay_quick HD.t430
lay_quick HD.t297
lay_quick HD.t160
lay_quick HD.t130
lay_quick HD.t771
lay_quick HD.t70
lay_quick HD.t47
noncomputable def PySem.W.Fast.tw5848554282377671169 : PySem.Params → PySem.W.BT := PySem.W.Fast.tw11857503252095300035
theorem PySem.W.Fast.te5848554282377671169 : HD.t516 = PySem.W.Fast.tw5848554282377671169 := PySem.W.Fast.te11857503252095300035
noncomputable def PySem.W.Fast.tw15739735347585871426 : PySem.Params → PySem.W.BT := PySem.W.Fast.tw14266610373637668937
theorem PySem.W.Fast.te15739735347585871426 : HD.t690 = PySem.W.Fast.tw15739735347585871426 := PySem.W.Fast.te14266610373637668937
noncomputable def PySem.W.Fast.tw11224283036561675971 : PySem.Params → PySem.W.BT := PySem.W.Fast.tw2067825850252802259
theorem PySem.W.Fast.te11224283036561675971 : HD.t190 = PySem.W.Fast.tw11224283036561675971 := PySem.W.Fast.te2067825850252802259
noncomputable def PySem.W.Fast.tw16753250369887295395 : PySem.Params → PySem.W.BT := PySem.W.Fast.tw251020702084633251
theorem PySem.W.Fast.te16753250369887295395 : HD.t545 = PySem.W.Fast.tw16753250369887295395 := PySem.W.Fast.te251020702084633251
noncomputable def PySem.W.Fast.tw2294854397974045510 : PySem.Params → PySem.W.BT := PySem.W.Fast.tw2036878166784380086
theorem PySem.W.Fast.te2294854397974045510 : HD.t85 = PySem.W.Fast.tw2294854397974045510 := PySem.W.Fast.te2036878166784380086
noncomputable def PySem.W.Fast.tw6364832225403335943 : PySem.Params → PySem.W.BT := PySem.W.Fast.tw17152881445362334774
theorem PySem.W.Fast.te6364832225403335943 : HD.t220 = PySem.W.Fast.tw6364832225403335943 := PySem.W.Fast.te17152881445362334774
noncomputable def PySem.W.Fast.tw16029188298635462215 : PySem.Params → PySem.W.BT := PySem.W.Fast.tw9221785693231611341
theorem PySem.W.Fast.te16029188298635462215 : HD.t242 = PySem.W.Fast.tw16029188298635462215 := PySem.W.Fast.te9221785693231611341
noncomputable def PySem.W.Fast.tw4631843929112630505 : PySem.Params → PySem.W.BT := PySem.W.Fast.tw920612414741421765
theorem PySem.W.Fast.te4631843929112630505 : HD.t175 = PySem.W.Fast.tw4631843929112630505 := PySem.W.Fast.te920612414741421765
noncomputable def PySem.W.Fast.tw16798657068305975370 : PySem.Params → PySem.W.BT := PySem.W.Fast.tw14302309412702635825
theorem PySem.W.Fast.te16798657068305975370 : HD.t288 = PySem.W.Fast.tw16798657068305975370 := PySem.W.Fast.te14302309412702635825
noncomputable def PySem.W.Fast.tw11268533821286410027 : PySem.Params → PySem.W.BT := PySem.W.Fast.tw14164315333175427251
theorem PySem.W.Fast.te11268533821286410027 : HD.t205 = PySem.W.Fast.tw11268533821286410027 := PySem.W.Fast.te14164315333175427251
noncomputable def PySem.W.Fast.tw17535525267432626668 : PySem.Params → PySem.Heap := PySem.W.Fast.tw9349021582736343175
theorem PySem.W.Fast.te17535525267432626668 : HD.e856 = PySem.W.Fast.tw17535525267432626668 := PySem.W.Fast.te9349021582736343175
noncomputable def PySem.W.Fast.tw17546005709695080877 : PySem.Params → PySem.W.BT := PySem.W.Fast.tw11108817263175320385
theorem PySem.W.Fast.te17546005709695080877 : HD.t100 = PySem.W.Fast.tw17546005709695080877 := PySem.W.Fast.te11108817263175320385
noncomputable def PySem.W.Fast.tw15632388027458123374 : PySem.Params → PySem.W.BT := PySem.W.Fast.tw13006058816851964647
theorem PySem.W.Fast.te15632388027458123374 : HD.t115 = PySem.W.Fast.tw15632388027458123374 := PySem.W.Fast.te13006058816851964647
noncomputable def PySem.W.Fast.tw2257529940240947247 : PySem.Params → PySem.Heap := PySem.W.Fast.tw12643942650068612825
theorem PySem.W.Fast.te2257529940240947247 : HD.e46 = PySem.W.Fast.tw2257529940240947247 := PySem.W.Fast.te12643942650068612825
noncomputable def PySem.W.Fast.tw10729915681061284496 : PySem.Params → PySem.W.BT := PySem.W.Fast.tw7318846458558088484
theorem PySem.W.Fast.te10729915681061284496 : HD.t855 = PySem.W.Fast.tw10729915681061284496 := PySem.W.Fast.te7318846458558088484
noncomputable def PySem.W.Fast.tw17888565902029391346 : PySem.Params → PySem.W.BT := PySem.W.Fast.tw14662557133790047758
theorem PySem.W.Fast.te17888565902029391346 : HD.t145 = PySem.W.Fast.tw17888565902029391346 := PySem.W.Fast.te14662557133790047758
noncomputable def PySem.W.Fast.tw14767467671429608371 : PySem.Params → PySem.W.BT := PySem.W.Fast.tw12010033859605399903
theorem PySem.W.Fast.te14767467671429608371 : HD.t430 = PySem.W.Fast.tw14767467671429608371 := PySem.W.Fast.te12010033859605399903
noncomputable def PySem.W.Fast.tw16527862775781960691 : PySem.Params → PySem.W.BT := PySem.W.Fast.tw3256100800154196465
theorem PySem.W.Fast.te16527862775781960691 : HD.t297 = PySem.W.Fast.tw16527862775781960691 := PySem.W.Fast.te3256100800154196465
noncomputable def PySem.W.Fast.tw2810533944269268182 : PySem.Params → PySem.W.BT := PySem.W.Fast.tw452476676235954211
theorem PySem.W.Fast.te2810533944269268182 : HD.t160 = PySem.W.Fast.tw2810533944269268182 := PySem.W.Fast.te452476676235954211
noncomputable def PySem.W.Fast.tw1292346606274980823 : PySem.Params → PySem.W.BT := PySem.W.Fast.tw7778535457881203485
theorem PySem.W.Fast.te1292346606274980823 : HD.t130 = PySem.W.Fast.tw1292346606274980823 := PySem.W.Fast.te7778535457881203485
noncomputable def PySem.W.Fast.tw15476380735148606872 : PySem.Params → PySem.W.BT := PySem.W.Fast.tw305308800439474569
theorem PySem.W.Fast.te15476380735148606872 : HD.t771 = PySem.W.Fast.tw15476380735148606872 := PySem.W.Fast.te305308800439474569
noncomputable def PySem.W.Fast.tw877418901244307835 : PySem.Params → PySem.W.BT := PySem.W.Fast.tw4601978763475442059
theorem PySem.W.Fast.te877418901244307835 : HD.t70 = PySem.W.Fast.tw877418901244307835 := PySem.W.Fast.te4601978763475442059
noncomputable def PySem.W.Fast.tw804092199982636349 : PySem.Params → PySem.W.BT := PySem.W.Fast.tw12288697002581643564
theorem PySem.W.Fast.te804092199982636349 : HD.t47 = PySem.W.Fast.tw804092199982636349 := PySem.W.Fast.te12288697002581643564
noncomputable def PySem.W.Fast.tw1647960591809683682 : PySem.Program := PySem.W.view PySem.W.Fast.tw14488091002481057614 [0, 2, 3, 4, 5, 6, 7, 8, 9, 10, 11, 12, 13, 14, 16, 17, 18, 19, 20, 21, 22, 24, 25, 27, 28, 29, 30, 31, 33, 34, 35, 36, 37, 38, 39, 40, 41, 42, 43, 44, 45]
theorem PySem.W.Fast.te1647960591809683682 : HD.vw = PySem.W.Fast.tw1647960591809683682 := congrArg (fun p : PySem.Program => PySem.W.view p [0, 2, 3, 4, 5, 6, 7, 8, 9, 10, 11, 12, 13, 14, 16, 17, 18, 19, 20, 21, 22, 24, 25, 27, 28, 29, 30, 31, 33, 34, 35, 36, 37, 38, 39, 40, 41, 42, 43, 44, 45]) PySem.W.Fast.te14488091002481057614
noncomputable def PySem.W.Fast.tw16970792351503237766 : List PySem.Stmt := (PySem.W.Fast.tw14488091002481057614.main.body.drop 0).take 3
theorem PySem.W.Fast.te16970792351503237766 : HD.s49 = PySem.W.Fast.tw16970792351503237766 := congrArg (fun p : PySem.Program => (p.main.body.drop 0).take 3) PySem.W.Fast.te14488091002481057614
noncomputable def PySem.W.Fast.tw7766378276201275438 : List PySem.Stmt := (PySem.W.Fast.tw14488091002481057614.main.body.drop 3).take 1
theorem PySem.W.Fast.te7766378276201275438 : HD.s71 = PySem.W.Fast.tw7766378276201275438 := congrArg (fun p : PySem.Program => (p.main.body.drop 3).take 1) PySem.W.Fast.te14488091002481057614
noncomputable def PySem.W.Fast.tw9305391788130653963 : List PySem.Stmt := (PySem.W.Fast.tw14488091002481057614.main.body.drop 4).take 1
theorem PySem.W.Fast.te9305391788130653963 : HD.s86 = PySem.W.Fast.tw9305391788130653963 := congrArg (fun p : PySem.Program => (p.main.body.drop 4).take 1) PySem.W.Fast.te14488091002481057614
noncomputable def PySem.W.Fast.tw12673549619886724666 : List PySem.Stmt := (PySem.W.Fast.tw14488091002481057614.main.body.drop 5).take 1
theorem PySem.W.Fast.te12673549619886724666 : HD.s101 = PySem.W.Fast.tw12673549619886724666 := congrArg (fun p : PySem.Program => (p.main.body.drop 5).take 1) PySem.W.Fast.te14488091002481057614
noncomputable def PySem.W.Fast.tw14763428746477059428 : List PySem.Stmt := (PySem.W.Fast.tw14488091002481057614.main.body.drop 6).take 1
theorem PySem.W.Fast.te14763428746477059428 : HD.s116 = PySem.W.Fast.tw14763428746477059428 := congrArg (fun p : PySem.Program => (p.main.body.drop 6).take 1) PySem.W.Fast.te14488091002481057614
noncomputable def PySem.W.Fast.tw8079883169468671255 : List PySem.Stmt := (PySem.W.Fast.tw14488091002481057614.main.body.drop 7).take 1
theorem PySem.W.Fast.te8079883169468671255 : HD.s131 = PySem.W.Fast.tw8079883169468671255 := congrArg (fun p : PySem.Program => (p.main.body.drop 7).take 1) PySem.W.Fast.te14488091002481057614
noncomputable def PySem.W.Fast.tw15416708228241726627 : List PySem.Stmt := (PySem.W.Fast.tw14488091002481057614.main.body.drop 8).take 1
theorem PySem.W.Fast.te15416708228241726627 : HD.s146 = PySem.W.Fast.tw15416708228241726627 := congrArg (fun p : PySem.Program => (p.main.body.drop 8).take 1) PySem.W.Fast.te14488091002481057614
noncomputable def PySem.W.Fast.tw14889595167817102546 : List PySem.Stmt := (PySem.W.Fast.tw14488091002481057614.main.body.drop 9).take 1
theorem PySem.W.Fast.te14889595167817102546 : HD.s161 = PySem.W.Fast.tw14889595167817102546 := congrArg (fun p : PySem.Program => (p.main.body.drop 9).take 1) PySem.W.Fast.te14488091002481057614
noncomputable def PySem.W.Fast.tw9741163907969138060 : List PySem.Stmt := (PySem.W.Fast.tw14488091002481057614.main.body.drop 10).take 1
theorem PySem.W.Fast.te9741163907969138060 : HD.s176 = PySem.W.Fast.tw9741163907969138060 := congrArg (fun p : PySem.Program => (p.main.body.drop 10).take 1) PySem.W.Fast.te14488091002481057614
noncomputable def PySem.W.Fast.tw3985506009949057970 : List PySem.Stmt := (PySem.W.Fast.tw14488091002481057614.main.body.drop 11).take 1
theorem PySem.W.Fast.te3985506009949057970 : HD.s191 = PySem.W.Fast.tw3985506009949057970 := congrArg (fun p : PySem.Program => (p.main.body.drop 11).take 1) PySem.W.Fast.te14488091002481057614
noncomputable def PySem.W.Fast.tw17233677561841584812 : List PySem.Stmt := (PySem.W.Fast.tw14488091002481057614.main.body.drop 12).take 1
theorem PySem.W.Fast.te17233677561841584812 : HD.s206 = PySem.W.Fast.tw17233677561841584812 := congrArg (fun p : PySem.Program => (p.main.body.drop 12).take 1) PySem.W.Fast.te14488091002481057614
noncomputable def PySem.W.Fast.tw959750476839503417 : List PySem.Stmt := (PySem.W.Fast.tw14488091002481057614.main.body.drop 13).take 1
theorem PySem.W.Fast.te959750476839503417 : HD.s221 = PySem.W.Fast.tw959750476839503417 := congrArg (fun p : PySem.Program => (p.main.body.drop 13).take 1) PySem.W.Fast.te14488091002481057614
noncomputable def PySem.W.Fast.tw6692257562035669867 : List PySem.Stmt := (PySem.W.Fast.tw14488091002481057614.main.body.drop 14).take 10
theorem PySem.W.Fast.te6692257562035669867 : HD.s243 = PySem.W.Fast.tw6692257562035669867 := congrArg (fun p : PySem.Program => (p.main.body.drop 14).take 10) PySem.W.Fast.te14488091002481057614
noncomputable def PySem.W.Fast.tw12336147652794031108 : List PySem.Stmt := (PySem.W.Fast.tw14488091002481057614.main.body.drop 24).take 1
theorem PySem.W.Fast.te12336147652794031108 : HD.s289 = PySem.W.Fast.tw12336147652794031108 := congrArg (fun p : PySem.Program => (p.main.body.drop 24).take 1) PySem.W.Fast.te14488091002481057614
noncomputable def PySem.W.Fast.tw13761506922970006694 : List PySem.Stmt := (PySem.W.Fast.tw14488091002481057614.main.body.drop 25).take 1
theorem PySem.W.Fast.te13761506922970006694 : HD.s298 = PySem.W.Fast.tw13761506922970006694 := congrArg (fun p : PySem.Program => (p.main.body.drop 25).take 1) PySem.W.Fast.te14488091002481057614
noncomputable def PySem.W.Fast.tw12525906679485164749 : List PySem.Stmt := (PySem.W.Fast.tw14488091002481057614.main.body.drop 26).take 5
theorem PySem.W.Fast.te12525906679485164749 : HD.s520 = PySem.W.Fast.tw12525906679485164749 := congrArg (fun p : PySem.Program => (p.main.body.drop 26).take 5) PySem.W.Fast.te14488091002481057614
noncomputable def PySem.W.Fast.tw13320200844511007043 : List PySem.Stmt := (PySem.W.Fast.tw14488091002481057614.main.body.drop 31).take 1
theorem PySem.W.Fast.te13320200844511007043 : HD.s546 = PySem.W.Fast.tw13320200844511007043 := congrArg (fun p : PySem.Program => (p.main.body.drop 31).take 1) PySem.W.Fast.te14488091002481057614
noncomputable def PySem.W.Fast.tw15183569692876789785 : List PySem.Stmt := (PySem.W.Fast.tw14488091002481057614.main.body.drop 32).take 14
theorem PySem.W.Fast.te15183569692876789785 : HD.s775 = PySem.W.Fast.tw15183569692876789785 := congrArg (fun p : PySem.Program => (p.main.body.drop 32).take 14) PySem.W.Fast.te14488091002481057614
open_top head for PySem.Challenge.rw_treeright_k21_houses_made
end
set_option Elab.async false
set_option linter.all false
set_option maxRecDepth 100000
set_option maxHeartbeats 4000000
namespace K21
open PySem L2
theorem all_mk {l : PySem.W.OpenLaw} {w : World} {K : PySem.W.Frag} {h : Heap} {mg : Str → Option Value} {fa : Addr} (X : K.In h) (G : h.Ns mainGlobals mg) (hfa : mg "law" = some (.ref fa))
    {f0 : Addr} {od0 an0 : Option Addr} {sl0 : Array (Option Value)} {oc0 kV0 dc0 pm0 cd0 ct0 : Value}
    {f1 : Addr} {od1 an1 : Option Addr} {sl1 : Array (Option Value)} {oc1 kV1 dc1 pm1 cd1 ct1 : Value}
    {f2 : Addr} {od2 an2 : Option Addr} {sl2 : Array (Option Value)} {oc2 kV2 dc2 pm2 cd2 ct2 : Value}
    {f3 : Addr} {od3 an3 : Option Addr} {sl3 : Array (Option Value)} {oc3 kV3 dc3 pm3 cd3 ct3 : Value}
    {f4 : Addr} {od4 an4 : Option Addr} {sl4 : Array (Option Value)} {oc4 kV4 dc4 pm4 cd4 ct4 : Value}
    {f5 : Addr} {od5 an5 : Option Addr} {sl5 : Array (Option Value)} {oc5 kV5 dc5 pm5 cd5 ct5 : Value}
    {f6 : Addr} {od6 an6 : Option Addr} {sl6 : Array (Option Value)} {oc6 kV6 dc6 pm6 cd6 ct6 : Value}
    {f7 : Addr} {od7 an7 : Option Addr} {sl7 : Array (Option Value)} {oc7 kV7 dc7 pm7 cd7 ct7 : Value}
    {f8 : Addr} {od8 an8 : Option Addr} {sl8 : Array (Option Value)} {oc8 kV8 dc8 pm8 cd8 ct8 : Value}
    {f9 : Addr} {od9 an9 : Option Addr} {sl9 : Array (Option Value)} {oc9 kV9 dc9 pm9 cd9 ct9 : Value}
    {f10 : Addr} {od10 an10 : Option Addr} {sl10 : Array (Option Value)} {oc10 kV10 dc10 pm10 cd10 ct10 : Value}
    {f11 : Addr} {od11 an11 : Option Addr} {sl11 : Array (Option Value)} {oc11 kV11 dc11 pm11 cd11 ct11 : Value}
    {f12 : Addr} {od12 an12 : Option Addr} {sl12 : Array (Option Value)} {oc12 kV12 dc12 pm12 cd12 ct12 : Value}
    {f13 : Addr} {od13 an13 : Option Addr} {sl13 : Array (Option Value)} {oc13 kV13 dc13 pm13 cd13 ct13 : Value}
    {f14 : Addr} {od14 an14 : Option Addr} {sl14 : Array (Option Value)} {oc14 kV14 dc14 pm14 cd14 ct14 : Value}
    {f15 : Addr} {od15 an15 : Option Addr} {sl15 : Array (Option Value)} {oc15 kV15 dc15 pm15 cd15 ct15 : Value}
    {f16 : Addr} {od16 an16 : Option Addr} {sl16 : Array (Option Value)} {oc16 kV16 dc16 pm16 cd16 ct16 : Value}
    {f17 : Addr} {od17 an17 : Option Addr} {sl17 : Array (Option Value)} {oc17 kV17 dc17 pm17 cd17 ct17 : Value}
    {f18 : Addr} {od18 an18 : Option Addr} {sl18 : Array (Option Value)} {oc18 kV18 dc18 pm18 cd18 ct18 : Value}
    {f19 : Addr} {od19 an19 : Option Addr} {sl19 : Array (Option Value)} {oc19 kV19 dc19 pm19 cd19 ct19 : Value}
    {f20 : Addr} {od20 an20 : Option Addr} {sl20 : Array (Option Value)} {oc20 kV20 dc20 pm20 cd20 ct20 : Value}
    {CS : Addr}
    {fCS_0 : Addr} {odCS_0 anCS_0 : Option Addr} {slCS_0 : Array (Option Value)} {ocCS_0 kVCS_0 dcCS_0 pmCS_0 cdCS_0 ctCS_0 : Value}
    {fCS_1 : Addr} {odCS_1 anCS_1 : Option Addr} {slCS_1 : Array (Option Value)} {ocCS_1 kVCS_1 dcCS_1 pmCS_1 cdCS_1 ctCS_1 : Value}
    {fCS_2 : Addr} {odCS_2 anCS_2 : Option Addr} {slCS_2 : Array (Option Value)} {ocCS_2 kVCS_2 dcCS_2 pmCS_2 cdCS_2 ctCS_2 : Value}
    {fCS_3 : Addr} {odCS_3 anCS_3 : Option Addr} {slCS_3 : Array (Option Value)} {ocCS_3 kVCS_3 dcCS_3 pmCS_3 cdCS_3 ctCS_3 : Value}
    {fCS_4 : Addr} {odCS_4 anCS_4 : Option Addr} {slCS_4 : Array (Option Value)} {ocCS_4 kVCS_4 dcCS_4 pmCS_4 cdCS_4 ctCS_4 : Value}
    {fCS_5 : Addr} {odCS_5 anCS_5 : Option Addr} {slCS_5 : Array (Option Value)} {ocCS_5 kVCS_5 dcCS_5 pmCS_5 cdCS_5 ctCS_5 : Value}
    {C : Addr}
    {fC_0 : Addr} {odC_0 anC_0 : Option Addr} {slC_0 : Array (Option Value)} {ocC_0 kVC_0 dcC_0 pmC_0 cdC_0 ctC_0 : Value}
    {fC_1 : Addr} {odC_1 anC_1 : Option Addr} {slC_1 : Array (Option Value)} {ocC_1 kVC_1 dcC_1 pmC_1 cdC_1 ctC_1 : Value}
    {fC_2 : Addr} {odC_2 anC_2 : Option Addr} {slC_2 : Array (Option Value)} {ocC_2 kVC_2 dcC_2 pmC_2 cdC_2 ctC_2 : Value}
    {fC_3 : Addr} {odC_3 anC_3 : Option Addr} {slC_3 : Array (Option Value)} {ocC_3 kVC_3 dcC_3 pmC_3 cdC_3 ctC_3 : Value}
    {fC_4 : Addr} {odC_4 anC_4 : Option Addr} {slC_4 : Array (Option Value)} {ocC_4 kVC_4 dcC_4 pmC_4 cdC_4 ctC_4 : Value}
    {fC_5 : Addr} {odC_5 anC_5 : Option Addr} {slC_5 : Array (Option Value)} {ocC_5 kVC_5 dcC_5 pmC_5 cdC_5 ctC_5 : Value}
    {t_LETTERS : Tok}
    {t_LONGEST_NAME : Tok}
    {x0 : Addr}
    {x1 : Addr}
    {x2 : Addr}
    {x3 : Addr}
    {x4 : Addr}
    {x5 : Addr}
    {x6 : Addr}
    {x7 : Addr}
    {x8 : Addr}
    {x9 : Addr}
    {x10 : Addr}
    {x11 : Addr}
    {x12 : Addr}
    (a0 : PySem.W.nsIn K mainGlobals "is_name" = some (some (.ref f0))) (l0 : K.lookup f0 = some ⟨oc0, od0, .func (PySem.W.fnOf "is_name" "is_name" (defArgs sName) (defBody sName) (defScope sName) .none kV0 dc0 pm0 an0 cd0 ct0), sl0⟩) (c0 : PySem.W.codeIn K cd0 "is_name" = true) (k0 : PySem.W.keepIn K (.ref f0) = true)
    (a1 : PySem.W.nsIn K mainGlobals "is_whole" = some (some (.ref f1))) (l1 : K.lookup f1 = some ⟨oc1, od1, .func (PySem.W.fnOf "is_whole" "is_whole" (defArgs sWh) (defBody sWh) (defScope sWh) .none kV1 dc1 pm1 an1 cd1 ct1), sl1⟩) (c1 : PySem.W.codeIn K cd1 "is_whole" = true) (k1 : PySem.W.keepIn K (.ref f1) = true)
    (a2 : PySem.W.nsIn K mainGlobals "is_one_of" = some (some (.ref f2))) (l2 : K.lookup f2 = some ⟨oc2, od2, .func (PySem.W.fnOf "is_one_of" "is_one_of" (defArgs sOneOf) (defBody sOneOf) (defScope sOneOf) .none kV2 dc2 pm2 an2 cd2 ct2), sl2⟩) (c2 : PySem.W.codeIn K cd2 "is_one_of" = true) (k2 : PySem.W.keepIn K (.ref f2) = true)
    (a3 : PySem.W.nsIn K mainGlobals "are_names" = some (some (.ref f3))) (l3 : K.lookup f3 = some ⟨oc3, od3, .func (PySem.W.fnOf "are_names" "are_names" (defArgs sAreN) (defBody sAreN) (defScope sAreN) .none kV3 dc3 pm3 an3 cd3 ct3), sl3⟩) (c3 : PySem.W.codeIn K cd3 "are_names" = true) (k3 : PySem.W.keepIn K (.ref f3) = true)
    (a4 : PySem.W.nsIn K mainGlobals "are_unlike" = some (some (.ref f4))) (l4 : K.lookup f4 = some ⟨oc4, od4, .func (PySem.W.fnOf "are_unlike" "are_unlike" (defArgs sUnl) (defBody sUnl) (defScope sUnl) .none kV4 dc4 pm4 an4 cd4 ct4), sl4⟩) (c4 : PySem.W.codeIn K cd4 "are_unlike" = true) (k4 : PySem.W.keepIn K (.ref f4) = true)
    (a5 : PySem.W.nsIn K mainGlobals "are_neighbours" = some (some (.ref f5))) (l5 : K.lookup f5 = some ⟨oc5, od5, .func (PySem.W.fnOf "are_neighbours" "are_neighbours" (defArgs sNb) (defBody sNb) (defScope sNb) .none kV5 dc5 pm5 an5 cd5 ct5), sl5⟩) (c5 : PySem.W.codeIn K cd5 "are_neighbours" = true) (k5 : PySem.W.keepIn K (.ref f5) = true)
    (a6 : PySem.W.nsIn K mainGlobals "are_arrows" = some (some (.ref f6))) (l6 : K.lookup f6 = some ⟨oc6, od6, .func (PySem.W.fnOf "are_arrows" "are_arrows" (defArgs sArs) (defBody sArs) (defScope sArs) .none kV6 dc6 pm6 an6 cd6 ct6), sl6⟩) (c6 : PySem.W.codeIn K cd6 "are_arrows" = true) (k6 : PySem.W.keepIn K (.ref f6) = true)
    (a7 : PySem.W.nsIn K mainGlobals "check_right" = some (some (.ref f7))) (l7 : K.lookup f7 = some ⟨oc7, od7, .func (PySem.W.fnOf "check_right" "check_right" (defArgs sCk) (defBody sCk) (defScope sCk) .none kV7 dc7 pm7 an7 cd7 ct7), sl7⟩) (c7 : PySem.W.codeIn K cd7 "check_right" = true) (k7 : PySem.W.keepIn K (.ref f7) = true)
    (a8 : PySem.W.nsIn K mainGlobals "_law_cell_at" = some (some (.ref f8))) (l8 : K.lookup f8 = some ⟨oc8, od8, .func (PySem.W.fnOf "_law_cell_at" "_law_cell_at" (defArgs sCell) (defBody sCell) (defScope sCell) .none kV8 dc8 pm8 an8 cd8 ct8), sl8⟩) (c8 : PySem.W.codeIn K cd8 "_law_cell_at" = true) (k8 : PySem.W.keepIn K (.ref f8) = true)
    (a9 : PySem.W.nsIn K mainGlobals "_law_mixed" = some (some (.ref f9))) (l9 : K.lookup f9 = some ⟨oc9, od9, .func (PySem.W.fnOf "_law_mixed" "_law_mixed" (defArgs sMixed) (defBody sMixed) (defScope sMixed) .none kV9 dc9 pm9 an9 cd9 ct9), sl9⟩) (c9 : PySem.W.codeIn K cd9 "_law_mixed" = true) (k9 : PySem.W.keepIn K (.ref f9) = true)
    (a10 : PySem.W.nsIn K mainGlobals "_law_digits" = some (some (.ref f10))) (l10 : K.lookup f10 = some ⟨oc10, od10, .func (PySem.W.fnOf "_law_digits" "_law_digits" (defArgs sDigits) (defBody sDigits) (defScope sDigits) .none kV10 dc10 pm10 an10 cd10 ct10), sl10⟩) (c10 : PySem.W.codeIn K cd10 "_law_digits" = true) (k10 : PySem.W.keepIn K (.ref f10) = true)
    (a11 : PySem.W.nsIn K mainGlobals "_law_next" = some (some (.ref f11))) (l11 : K.lookup f11 = some ⟨oc11, od11, .func (PySem.W.fnOf "_law_next" "_law_next" (defArgs sNext) (defBody sNext) (defScope sNext) .none kV11 dc11 pm11 an11 cd11 ct11), sl11⟩) (c11 : PySem.W.codeIn K cd11 "_law_next" = true) (k11 : PySem.W.keepIn K (.ref f11) = true)
    (a12 : PySem.W.nsIn K mainGlobals "_law_names" = some (some (.ref f12))) (l12 : K.lookup f12 = some ⟨oc12, od12, .func (PySem.W.fnOf "_law_names" "_law_names" (defArgs sNames) (defBody sNames) (defScope sNames) .none kV12 dc12 pm12 an12 cd12 ct12), sl12⟩) (c12 : PySem.W.codeIn K cd12 "_law_names" = true) (k12 : PySem.W.keepIn K (.ref f12) = true)
    (a13 : PySem.W.nsIn K mainGlobals "_law_odd" = some (some (.ref f13))) (l13 : K.lookup f13 = some ⟨oc13, od13, .func (PySem.W.fnOf "_law_odd" "_law_odd" (defArgs sOdd) (defBody sOdd) (defScope sOdd) .none kV13 dc13 pm13 an13 cd13 ct13), sl13⟩) (c13 : PySem.W.codeIn K cd13 "_law_odd" = true) (k13 : PySem.W.keepIn K (.ref f13) = true)
    (a14 : PySem.W.nsIn K mainGlobals "_law_kinds" = some (some (.ref f14))) (l14 : K.lookup f14 = some ⟨oc14, od14, .func (PySem.W.fnOf "_law_kinds" "_law_kinds" (defArgs sKinds) (defBody sKinds) (defScope sKinds) .none kV14 dc14 pm14 an14 cd14 ct14), sl14⟩) (c14 : PySem.W.codeIn K cd14 "_law_kinds" = true) (k14 : PySem.W.keepIn K (.ref f14) = true)
    (a15 : PySem.W.nsIn K mainGlobals "_law_alike" = some (some (.ref f15))) (l15 : K.lookup f15 = some ⟨oc15, od15, .func (PySem.W.fnOf "_law_alike" "_law_alike" (defArgs sAlike) (defBody sAlike) (defScope sAlike) .none kV15 dc15 pm15 an15 cd15 ct15), sl15⟩) (c15 : PySem.W.codeIn K cd15 "_law_alike" = true) (k15 : PySem.W.keepIn K (.ref f15) = true)
    (a16 : PySem.W.nsIn K mainGlobals "_law_told" = some (some (.ref f16))) (l16 : K.lookup f16 = some ⟨oc16, od16, .func (PySem.W.fnOf "_law_told" "_law_told" (defArgs sTo) (defBody sTo) (defScope sTo) .none kV16 dc16 pm16 an16 cd16 ct16), sl16⟩) (c16 : PySem.W.codeIn K cd16 "_law_told" = true) (k16 : PySem.W.keepIn K (.ref f16) = true)
    (a17 : PySem.W.nsIn K mainGlobals "_law_made" = some (some (.ref f17))) (l17 : K.lookup f17 = some ⟨oc17, od17, .func (PySem.W.fnOf "_law_made" "_law_made" (defArgs sMd) (defBody sMd) (defScope sMd) .none kV17 dc17 pm17 an17 cd17 ct17), sl17⟩) (c17 : PySem.W.codeIn K cd17 "_law_made" = true) (k17 : PySem.W.keepIn K (.ref f17) = true)
    (a18 : PySem.W.nsIn K mainGlobals "_law_wrong" = some (some (.ref f18))) (l18 : K.lookup f18 = some ⟨oc18, od18, .func (PySem.W.fnOf "_law_wrong" "_law_wrong" (defArgs sWr) (defBody sWr) (defScope sWr) .none kV18 dc18 pm18 an18 cd18 ct18), sl18⟩) (c18 : PySem.W.codeIn K cd18 "_law_wrong" = true) (k18 : PySem.W.keepIn K (.ref f18) = true)
    (a19 : PySem.W.nsIn K mainGlobals "_law_refusal" = some (some (.ref f19))) (l19 : K.lookup f19 = some ⟨oc19, od19, .func (PySem.W.fnOf "_law_refusal" "_law_refusal" (defArgs sRe) (defBody sRe) (defScope sRe) .none kV19 dc19 pm19 an19 cd19 ct19), sl19⟩) (c19 : PySem.W.codeIn K cd19 "_law_refusal" = true) (k19 : PySem.W.keepIn K (.ref f19) = true)
    (a20 : PySem.W.nsIn K mainGlobals "law" = some (some (.ref f20))) (l20 : K.lookup f20 = some ⟨oc20, od20, .func (PySem.W.fnOf "law" "law" (defArgs sLaw) (defBody sLaw) (defScope sLaw) .none kV20 dc20 pm20 an20 cd20 ct20), sl20⟩) (c20 : PySem.W.codeIn K cd20 "law" = true) (k20 : PySem.W.keepIn K (.ref f20) = true)
    (aC_CS : PySem.W.nsIn K mainGlobals "Seat" = some (some (.ref CS)))
    (aCS_0 : PySem.W.findIn K (.ref CS) "__init__" = some (some (.ref fCS_0))) (iCS_0 : PySem.W.isFn K (.ref fCS_0) = true) (lCS_0 : K.lookup fCS_0 = some ⟨ocCS_0, odCS_0, .func (PySem.W.fnOf "__init__" "Seat.__init__" (defArgs sInit) (defBody sInit) (defScope sInit) .none kVCS_0 dcCS_0 pmCS_0 anCS_0 cdCS_0 ctCS_0), slCS_0⟩) (cCS_0 : PySem.W.codeIn K cdCS_0 "Seat.__init__" = true) (kCS_0 : PySem.W.keepIn K (.ref fCS_0) = true)
    (aCS_1 : PySem.W.findIn K (.ref CS) "arrow" = some (some (.ref fCS_1))) (iCS_1 : PySem.W.isFn K (.ref fCS_1) = true) (lCS_1 : K.lookup fCS_1 = some ⟨ocCS_1, odCS_1, .func (PySem.W.fnOf "arrow" "Seat.arrow" (defArgs sArrow) (defBody sArrow) (defScope sArrow) .none kVCS_1 dcCS_1 pmCS_1 anCS_1 cdCS_1 ctCS_1), slCS_1⟩) (cCS_1 : PySem.W.codeIn K cdCS_1 "Seat.arrow" = true) (kCS_1 : PySem.W.keepIn K (.ref fCS_1) = true)
    (aCS_2 : PySem.W.findIn K (.ref CS) "row" = some (some (.ref fCS_2))) (iCS_2 : PySem.W.isFn K (.ref fCS_2) = true) (lCS_2 : K.lookup fCS_2 = some ⟨ocCS_2, odCS_2, .func (PySem.W.fnOf "row" "Seat.row" (defArgs sRow) (defBody sRow) (defScope sRow) .none kVCS_2 dcCS_2 pmCS_2 anCS_2 cdCS_2 ctCS_2), slCS_2⟩) (cCS_2 : PySem.W.codeIn K cdCS_2 "Seat.row" = true) (kCS_2 : PySem.W.keepIn K (.ref fCS_2) = true)
    (aCS_3 : PySem.W.findIn K (.ref CS) "inside" = some (some (.ref fCS_3))) (iCS_3 : PySem.W.isFn K (.ref fCS_3) = true) (lCS_3 : K.lookup fCS_3 = some ⟨ocCS_3, odCS_3, .func (PySem.W.fnOf "inside" "Seat.inside" (defArgs sInside) (defBody sInside) (defScope sInside) .none kVCS_3 dcCS_3 pmCS_3 anCS_3 cdCS_3 ctCS_3), slCS_3⟩) (cCS_3 : PySem.W.codeIn K cdCS_3 "Seat.inside" = true) (kCS_3 : PySem.W.keepIn K (.ref fCS_3) = true)
    (aCS_4 : PySem.W.findIn K (.ref CS) "has_asked" = some (some (.ref fCS_4))) (iCS_4 : PySem.W.isFn K (.ref fCS_4) = true) (lCS_4 : K.lookup fCS_4 = some ⟨ocCS_4, odCS_4, .func (PySem.W.fnOf "has_asked" "Seat.has_asked" (defArgs sHas) (defBody sHas) (defScope sHas) .none kVCS_4 dcCS_4 pmCS_4 anCS_4 cdCS_4 ctCS_4), slCS_4⟩) (cCS_4 : PySem.W.codeIn K cdCS_4 "Seat.has_asked" = true) (kCS_4 : PySem.W.keepIn K (.ref fCS_4) = true)
    (aCS_5 : PySem.W.findIn K (.ref CS) "askers" = some (some (.ref fCS_5))) (iCS_5 : PySem.W.isFn K (.ref fCS_5) = true) (lCS_5 : K.lookup fCS_5 = some ⟨ocCS_5, odCS_5, .func (PySem.W.fnOf "askers" "Seat.askers" (defArgs sSA) (defBody sSA) (defScope sSA) .none kVCS_5 dcCS_5 pmCS_5 anCS_5 cdCS_5 ctCS_5), slCS_5⟩) (cCS_5 : PySem.W.codeIn K cdCS_5 "Seat.askers" = true) (kCS_5 : PySem.W.keepIn K (.ref fCS_5) = true)
    (pg_CS : PySem.W.plainGet K CS Str.empty = true) (hd_CS : PySem.W.hasDictIn K CS = true) (po_CS : PySem.W.plainOver K CS = true) (sa_CS : PySem.W.findIn K (.ref CS) "__setattr__" = some (some (.builtin "object.__setattr__"))) (mk_CS : PySem.W.makesIn K CS = true) (kc_CS : PySem.W.keepIn K (.ref CS) = true)
    (n_CS_pointer : PySem.W.findIn K (.ref CS) "pointer" = some none)
    (n_CS_waiting : PySem.W.findIn K (.ref CS) "waiting" = some none)
    (n_CS_holder : PySem.W.findIn K (.ref CS) "holder" = some none)
    (n_CS_asked : PySem.W.findIn K (.ref CS) "asked" = some none)
    (aC_C : PySem.W.nsIn K mainGlobals "House" = some (some (.ref C)))
    (aC_0 : PySem.W.findIn K (.ref C) "__init__" = some (some (.ref fC_0))) (iC_0 : PySem.W.isFn K (.ref fC_0) = true) (lC_0 : K.lookup fC_0 = some ⟨ocC_0, odC_0, .func (PySem.W.fnOf "__init__" "House.__init__" (defArgs sHI) (defBody sHI) (defScope sHI) .none kVC_0 dcC_0 pmC_0 anC_0 cdC_0 ctC_0), slC_0⟩) (cC_0 : PySem.W.codeIn K cdC_0 "House.__init__" = true) (kC_0 : PySem.W.keepIn K (.ref fC_0) = true)
    (aC_1 : PySem.W.findIn K (.ref C) "arrow" = some (some (.ref fC_1))) (iC_1 : PySem.W.isFn K (.ref fC_1) = true) (lC_1 : K.lookup fC_1 = some ⟨ocC_1, odC_1, .func (PySem.W.fnOf "arrow" "House.arrow" (defArgs sHAr) (defBody sHAr) (defScope sHAr) .none kVC_1 dcC_1 pmC_1 anC_1 cdC_1 ctC_1), slC_1⟩) (cC_1 : PySem.W.codeIn K cdC_1 "House.arrow" = true) (kC_1 : PySem.W.keepIn K (.ref fC_1) = true)
    (aC_2 : PySem.W.findIn K (.ref C) "row" = some (some (.ref fC_2))) (iC_2 : PySem.W.isFn K (.ref fC_2) = true) (lC_2 : K.lookup fC_2 = some ⟨ocC_2, odC_2, .func (PySem.W.fnOf "row" "House.row" (defArgs sHRo) (defBody sHRo) (defScope sHRo) .none kVC_2 dcC_2 pmC_2 anC_2 cdC_2 ctC_2), slC_2⟩) (cC_2 : PySem.W.codeIn K cdC_2 "House.row" = true) (kC_2 : PySem.W.keepIn K (.ref fC_2) = true)
    (aC_3 : PySem.W.findIn K (.ref C) "inside" = some (some (.ref fC_3))) (iC_3 : PySem.W.isFn K (.ref fC_3) = true) (lC_3 : K.lookup fC_3 = some ⟨ocC_3, odC_3, .func (PySem.W.fnOf "inside" "House.inside" (defArgs sHIn) (defBody sHIn) (defScope sHIn) .none kVC_3 dcC_3 pmC_3 anC_3 cdC_3 ctC_3), slC_3⟩) (cC_3 : PySem.W.codeIn K cdC_3 "House.inside" = true) (kC_3 : PySem.W.keepIn K (.ref fC_3) = true)
    (aC_4 : PySem.W.findIn K (.ref C) "has_asked" = some (some (.ref fC_4))) (iC_4 : PySem.W.isFn K (.ref fC_4) = true) (lC_4 : K.lookup fC_4 = some ⟨ocC_4, odC_4, .func (PySem.W.fnOf "has_asked" "House.has_asked" (defArgs sHHa) (defBody sHHa) (defScope sHHa) .none kVC_4 dcC_4 pmC_4 anC_4 cdC_4 ctC_4), slC_4⟩) (cC_4 : PySem.W.codeIn K cdC_4 "House.has_asked" = true) (kC_4 : PySem.W.keepIn K (.ref fC_4) = true)
    (aC_5 : PySem.W.findIn K (.ref C) "askers" = some (some (.ref fC_5))) (iC_5 : PySem.W.isFn K (.ref fC_5) = true) (lC_5 : K.lookup fC_5 = some ⟨ocC_5, odC_5, .func (PySem.W.fnOf "askers" "House.askers" (defArgs sHAs) (defBody sHAs) (defScope sHAs) .none kVC_5 dcC_5 pmC_5 anC_5 cdC_5 ctC_5), slC_5⟩) (cC_5 : PySem.W.codeIn K cdC_5 "House.askers" = true) (kC_5 : PySem.W.keepIn K (.ref fC_5) = true)
    (pg_C : PySem.W.plainGet K C Str.empty = true) (hd_C : PySem.W.hasDictIn K C = true) (po_C : PySem.W.plainOver K C = true) (sa_C : PySem.W.findIn K (.ref C) "__setattr__" = some (some (.builtin "object.__setattr__"))) (mk_C : PySem.W.makesIn K C = true) (kc_C : PySem.W.keepIn K (.ref C) = true)
    (n_C_name : PySem.W.findIn K (.ref C) "name" = some none)
    (n_C_nearby : PySem.W.findIn K (.ref C) "nearby" = some none)
    (n_C_seats : PySem.W.findIn K (.ref C) "seats" = some none)
    (z_isinstance : PySem.W.nsIn K mainGlobals "isinstance" = some none)
    (z_str : PySem.W.nsIn K mainGlobals "str" = some none)
    (z_int : PySem.W.nsIn K mainGlobals "int" = some none)
    (z_bool : PySem.W.nsIn K mainGlobals "bool" = some none)
    (z_len : PySem.W.nsIn K mainGlobals "len" = some none)
    (z_all : PySem.W.nsIn K mainGlobals "all" = some none)
    (z_range : PySem.W.nsIn K mainGlobals "range" = some none)
    (z_list : PySem.W.nsIn K mainGlobals "list" = some none)
    (z_tuple : PySem.W.nsIn K mainGlobals "tuple" = some none)
    (z_set : PySem.W.nsIn K mainGlobals "set" = some none)
    (z_sorted : PySem.W.nsIn K mainGlobals "sorted" = some none)
    (z_enumerate : PySem.W.nsIn K mainGlobals "enumerate" = some none)
    (z_min : PySem.W.nsIn K mainGlobals "min" = some none)
    (z_ValueError : PySem.W.nsIn K mainGlobals "ValueError" = some none)
    (g_LETTERS : PySem.W.nsIn K mainGlobals "LETTERS" = some (some (.str "abcdefghijklmnopqrstuvwxyz" t_LETTERS)))
    (g_LONGEST_NAME : PySem.W.nsIn K mainGlobals "LONGEST_NAME" = some (some (.int 8 t_LONGEST_NAME)))
    (aX_0 : PySem.W.nsIn K mainGlobals "NoTree" = some (some (.ref x0)))
    (aX_1 : PySem.W.nsIn K mainGlobals "NoHouse" = some (some (.ref x1)))
    (aX_2 : PySem.W.nsIn K mainGlobals "NoSeat" = some (some (.ref x2)))
    (aX_3 : PySem.W.nsIn K mainGlobals "NoAsker" = some (some (.ref x3)))
    (aX_4 : PySem.W.nsIn K mainGlobals "NoLetter" = some (some (.ref x4)))
    (aX_5 : PySem.W.nsIn K mainGlobals "NoRight" = some (some (.ref x5)))
    (aX_6 : PySem.W.nsIn K mainGlobals "NoRow" = some (some (.ref x6)))
    (aX_7 : PySem.W.nsIn K mainGlobals "NoTie" = some (some (.ref x7)))
    (aX_8 : PySem.W.nsIn K mainGlobals "Down" = some (some (.ref x8)))
    (aX_9 : PySem.W.nsIn K mainGlobals "NoMend" = some (some (.ref x9)))
    (aX_10 : PySem.W.nsIn K mainGlobals "NoText" = some (some (.ref x10)))
    (aX_11 : PySem.W.nsIn K mainGlobals "NoLine" = some (some (.ref x11)))
    (aX_12 : PySem.W.nsIn K mainGlobals "TreeError" = some (some (.ref x12)))
    (xtab : excTab K [x0, x1, x2, x3, x4, x5, x6, x7, x8, x9, x10, x11] x12 = true)
    (xall : excAll K [x0, x1, x2, x3, x4, x5, x6, x7, x8, x9, x10, x11] = true) :
    ∃ fd : FuncData, (∀ (s : Shared) (v : Value), BindsTo s fd ⟨[v], []⟩ [("_law_script", v)]) ∧ ∀ base : Heap, K.In base → base.Ns mainGlobals mg → FnOk l.prog w K mg base CX0 7 fa fd ["_law_script"] (spLaw K) := by
  have e := hfa.symm.trans (PySem.W.mg_of X G a20)
  cases e
  have GI : FunG K mg "is_name" sName ["thing"] := funG_mk X G a0 l0 c0 k0 (fun _ _ _ _ _ _ us hl => match us, hl with | [_], _ => rfl)
  have GWh : FunG K mg "is_whole" sWh ["thing"] := funG_mk X G a1 l1 c1 k1 (fun _ _ _ _ _ _ us hl => match us, hl with | [_], _ => rfl)
  have GOO : FunG K mg "is_one_of" sOneOf ["thing", "houses"] := funG_mk X G a2 l2 c2 k2 (fun _ _ _ _ _ _ us hl => match us, hl with | [_, _], _ => rfl)
  have GAN : FunG K mg "are_names" sAreN ["thing"] := funG_mk X G a3 l3 c3 k3 (fun _ _ _ _ _ _ us hl => match us, hl with | [_], _ => rfl)
  have GAU : FunG K mg "are_unlike" sUnl ["names"] := funG_mk X G a4 l4 c4 k4 (fun _ _ _ _ _ _ us hl => match us, hl with | [_], _ => rfl)
  have GNb : FunG K mg "are_neighbours" sNb ["thing", "name"] := funG_mk X G a5 l5 c5 k5 (fun _ _ _ _ _ _ us hl => match us, hl with | [_, _], _ => rfl)
  have GAr : FunG K mg "are_arrows" sArs ["thing", "neighbours"] := funG_mk X G a6 l6 c6 k6 (fun _ _ _ _ _ _ us hl => match us, hl with | [_, _], _ => rfl)
  have GCk : FunG K mg "check_right" sCk ["right", "many"] := funG_mk X G a7 l7 c7 k7 (fun _ _ _ _ _ _ us hl => match us, hl with | [_, _], _ => rfl)
  have GC : FunG K mg "_law_cell_at" sCell ["_law_script", "_law_k"] := funG_mk X G a8 l8 c8 k8 (fun _ _ _ _ _ _ us hl => match us, hl with | [_, _], _ => rfl)
  have GM : FunG K mg "_law_mixed" sMixed ["_law_cell", "_law_k"] := funG_mk X G a9 l9 c9 k9 (fun _ _ _ _ _ _ us hl => match us, hl with | [_, _], _ => rfl)
  have GD : FunG K mg "_law_digits" sDigits ["_law_cell"] := funG_mk X G a10 l10 c10 k10 (fun _ _ _ _ _ _ us hl => match us, hl with | [_], _ => rfl)
  have GN : FunG K mg "_law_next" sNext ["_law_source", "_law_many"] := funG_mk X G a11 l11 c11 k11 (fun _ _ _ _ _ _ us hl => match us, hl with | [_, _], _ => rfl)
  have GNa : FunG K mg "_law_names" sNames ["_law_source", "_law_many"] := funG_mk X G a12 l12 c12 k12 (fun _ _ _ _ _ _ us hl => match us, hl with | [_, _], _ => rfl)
  have GO : FunG K mg "_law_odd" sOdd ["_law_source", "_law_name"] := funG_mk X G a13 l13 c13 k13 (fun _ _ _ _ _ _ us hl => match us, hl with | [_, _], _ => rfl)
  have GK : FunG K mg "_law_kinds" sKinds ["_law_e"] := funG_mk X G a14 l14 c14 k14 (fun _ _ _ _ _ _ us hl => match us, hl with | [_], _ => rfl)
  have GAl : FunG K mg "_law_alike" sAlike ["_law_found", "_law_due"] := funG_mk X G a15 l15 c15 k15 (fun _ _ _ _ _ _ us hl => match us, hl with | [_, _], _ => rfl)
  have GT : FunG K mg "_law_told" sTo ["_law_house", "_law_many"] := funG_mk X G a16 l16 c16 k16 (fun _ _ _ _ _ _ us hl => match us, hl with | [_, _], _ => rfl)
  have GMd : FunG K mg "_law_made" sMd ["_law_cell"] := funG_mk X G a17 l17 c17 k17 (fun _ _ _ _ _ _ us hl => match us, hl with | [_], _ => rfl)
  have GWr : FunG K mg "_law_wrong" sWr ["_law_source", "_law_name", "_law_neighbours", "_law_ways"] := funG_mk X G a18 l18 c18 k18 (fun _ _ _ _ _ _ us hl => match us, hl with | [_, _, _, _], _ => rfl)
  have GRe : FunG K mg "_law_refusal" sRe ["_law_name", "_law_neighbours", "_law_ways"] := funG_mk X G a19 l19 c19 k19 (fun _ _ _ _ _ _ us hl => match us, hl with | [_, _, _], _ => rfl)
  have FL := fun_mk (st := sLaw) l20 c20 k20
  have cl_CS : Cls K CS := ⟨pg_CS, hd_CS, po_CS, sa_CS⟩
  have mIF := fun_mk (st := sInit) lCS_0 cCS_0 kCS_0
  have mIB := mIF.binds (ps := ["self", "arrow"]) (fun _ _ _ _ _ _ us hl => match us, hl with | [_, _], _ => rfl)
  have mIM : Mk K CS fCS_0 := ⟨mk_CS, aCS_0, iCS_0, kc_CS⟩
  have mA : MthG K CS "arrow" "Seat.arrow" sArrow ["self"] := mthG_mk aCS_1 iCS_1 lCS_1 cCS_1 kCS_1 (fun _ _ _ _ _ _ us hl => match us, hl with | [_], _ => rfl)
  have mR : MthG K CS "row" "Seat.row" sRow ["self"] := mthG_mk aCS_2 iCS_2 lCS_2 cCS_2 kCS_2 (fun _ _ _ _ _ _ us hl => match us, hl with | [_], _ => rfl)
  have mIn : MthG K CS "inside" "Seat.inside" sInside ["self"] := mthG_mk aCS_3 iCS_3 lCS_3 cCS_3 kCS_3 (fun _ _ _ _ _ _ us hl => match us, hl with | [_], _ => rfl)
  have mH : MthG K CS "has_asked" "Seat.has_asked" sHas ["self"] := mthG_mk aCS_4 iCS_4 lCS_4 cCS_4 kCS_4 (fun _ _ _ _ _ _ us hl => match us, hl with | [_], _ => rfl)
  have mSA : MthG K CS "askers" "Seat.askers" sSA ["self"] := mthG_mk aCS_5 iCS_5 lCS_5 cCS_5 kCS_5 (fun _ _ _ _ _ _ us hl => match us, hl with | [_], _ => rfl)
  have mg_CS := PySem.W.mg_of X G aC_CS
  have cl_C : Cls K C := ⟨pg_C, hd_C, po_C, sa_C⟩
  have hIF := fun_mk (st := sHI) lC_0 cC_0 kC_0
  have hIB := hIF.binds (ps := ["self", "name", "neighbours", "arrows"]) (fun _ _ _ _ _ _ us hl => match us, hl with | [_, _, _, _], _ => rfl)
  have hIM : Mk K C fC_0 := ⟨mk_C, aC_0, iC_0, kc_C⟩
  have hA : MthG K C "arrow" "House.arrow" sHAr ["self", "right"] := mthG_mk aC_1 iC_1 lC_1 cC_1 kC_1 (fun _ _ _ _ _ _ us hl => match us, hl with | [_, _], _ => rfl)
  have hR : MthG K C "row" "House.row" sHRo ["self", "right"] := mthG_mk aC_2 iC_2 lC_2 cC_2 kC_2 (fun _ _ _ _ _ _ us hl => match us, hl with | [_, _], _ => rfl)
  have hIn : MthG K C "inside" "House.inside" sHIn ["self", "right"] := mthG_mk aC_3 iC_3 lC_3 cC_3 kC_3 (fun _ _ _ _ _ _ us hl => match us, hl with | [_, _], _ => rfl)
  have hH : MthG K C "has_asked" "House.has_asked" sHHa ["self", "right"] := mthG_mk aC_4 iC_4 lC_4 cC_4 kC_4 (fun _ _ _ _ _ _ us hl => match us, hl with | [_, _], _ => rfl)
  have hAs : MthG K C "askers" "House.askers" sHAs ["self"] := mthG_mk aC_5 iC_5 lC_5 cC_5 kC_5 (fun _ _ _ _ _ _ us hl => match us, hl with | [_], _ => rfl)
  have mg_C := PySem.W.mg_of X G aC_C
  have b_isinstance : Blt mg "isinstance" := ⟨PySem.W.mg_none_of X G z_isinstance⟩
  have b_str : Blt mg "str" := ⟨PySem.W.mg_none_of X G z_str⟩
  have b_int : Blt mg "int" := ⟨PySem.W.mg_none_of X G z_int⟩
  have b_bool : Blt mg "bool" := ⟨PySem.W.mg_none_of X G z_bool⟩
  have b_len : Blt mg "len" := ⟨PySem.W.mg_none_of X G z_len⟩
  have b_all : Blt mg "all" := ⟨PySem.W.mg_none_of X G z_all⟩
  have b_range : Blt mg "range" := ⟨PySem.W.mg_none_of X G z_range⟩
  have b_list : Blt mg "list" := ⟨PySem.W.mg_none_of X G z_list⟩
  have b_tuple : Blt mg "tuple" := ⟨PySem.W.mg_none_of X G z_tuple⟩
  have b_set : Blt mg "set" := ⟨PySem.W.mg_none_of X G z_set⟩
  have b_sorted : Blt mg "sorted" := ⟨PySem.W.mg_none_of X G z_sorted⟩
  have b_enumerate : Blt mg "enumerate" := ⟨PySem.W.mg_none_of X G z_enumerate⟩
  have b_min : Blt mg "min" := ⟨PySem.W.mg_none_of X G z_min⟩
  have b_ValueError : Blt mg "ValueError" := ⟨PySem.W.mg_none_of X G z_ValueError⟩
  have gl_LETTERS : Glo mg "LETTERS" (.str abc) := ⟨_, PySem.W.mg_of X G g_LETTERS, ⟨_, rfl⟩⟩
  have gl_LONGEST_NAME : Glo mg "LONGEST_NAME" (.int 8) := ⟨_, PySem.W.mg_of X G g_LONGEST_NAME, ⟨_, rfl⟩⟩
  refine ⟨PySem.W.fnOf "law" "law" (defArgs sLaw) (defBody sLaw) (defScope sLaw) .none kV20 dc20 pm20 an20 cd20 ct20, fun s v => .of_eq rfl, fun base _ _ => ?_⟩
  have TS : SeatT K CS := ⟨cl_CS, n_CS_pointer, n_CS_waiting, n_CS_holder, n_CS_asked⟩
  have T : HouseT K C := ⟨cl_C, n_C_name, n_C_nearby, n_C_seats⟩
  obtain ⟨cs, hcs⟩ : ∃ cs : Nat → Addr, cs = fun i => [x0, x1, x2, x3, x4, x5, x6, x7, x8, x9, x10, x11].getD i 0 := ⟨_, rfl⟩
  have kn : Kn K mg cs := by
    subst hcs
    exact ⟨⟨_, PySem.W.mg_of X G aX_0, rfl⟩, ⟨_, PySem.W.mg_of X G aX_1, rfl⟩, ⟨_, PySem.W.mg_of X G aX_2, rfl⟩, ⟨_, PySem.W.mg_of X G aX_3, rfl⟩, ⟨_, PySem.W.mg_of X G aX_4, rfl⟩, ⟨_, PySem.W.mg_of X G aX_5, rfl⟩, ⟨_, PySem.W.mg_of X G aX_6, rfl⟩, ⟨_, PySem.W.mg_of X G aX_7, rfl⟩, ⟨_, PySem.W.mg_of X G aX_8, rfl⟩, ⟨_, PySem.W.mg_of X G aX_9, rfl⟩, ⟨_, PySem.W.mg_of X G aX_10, rfl⟩, ⟨_, PySem.W.mg_of X G aX_11, rfl⟩, fun i j hi hj => tab_kd xtab hi hj, fun i hi => tab_kv xtab hi, fun i hi => all_ek xall hi⟩
  have exS : ExcC K mg "NoSeat" (cs 2) := by
    subst hcs
    exact ⟨PySem.W.mg_of X G aX_2, tab_ok xtab (i := 2) (by decide) (by decide)⟩
  have hex : ∀ i, i < 12 → PySem.W.exmOne K (.ref (cs i)) (.ref x12) = some true := by
    subst hcs
    exact fun i hi => tab_ex xtab hi
  have mgT := PySem.W.mg_of X G aX_12
  have CI := okName (P := l.prog) (w := w) (base := base) GI b_isinstance b_str b_len b_all gl_LETTERS gl_LONGEST_NAME
  have CWh := okWh (P := l.prog) (w := w) (base := base) GWh b_isinstance b_int b_bool
  have CO2 := okOne2 GOO CI
  have CAN := okAreN GAN CI b_isinstance b_list b_all
  have CAU := okUnl (P := l.prog) (w := w) (base := base) GAU b_len b_set
  have CNb := okNb GNb CAN CAU
  have CAr := okArs GAr CO2 b_isinstance b_list b_len b_all
  have CCk := okCk GCk CWh
  have MA := okArrow (P := l.prog) (w := w) (mg := mg) (base := base) TS mA
  have MR := okRow (P := l.prog) (w := w) (mg := mg) (base := base) TS mR b_list
  have MIn := okInside (P := l.prog) (w := w) (mg := mg) (base := base) TS mIn
  have MHs := okHas (P := l.prog) (w := w) (mg := mg) (base := base) TS mH
  have MSA := okSA (P := l.prog) (w := w) (mg := mg) (base := base) TS mSA
  have MKS : MkCal l.prog w K mg base CX0 2 CS "Seat" ["self", "arrow"] (spInit CS) := ⟨_, _, okInit TS mIF CI, mIM, mg_CS, mIB⟩
  have MH : MkCal l.prog w K mg base CX0 4 C "House" ["self", "name", "neighbours", "arrows"] (spHI K C CS) := ⟨_, _, okHI T hIF CI CNb CAr MKS b_list, hIM, mg_C, hIB⟩
  have MHX : MkCal l.prog w K mg base (CXE l.prog w) 4 C "House" ["self", "name", "neighbours", "arrows"] (spHX K (cs 2)) := ⟨_, _, okHX hIF CI CNb CAr exS, hIM, mg_C, hIB⟩
  have HA := okHAr T TS hA CCk MA b_len
  have HR := okHRo T TS hR CCk MR b_len
  have HI := okHIn T TS hIn CCk MIn b_len
  have HH := okHHa T TS hH CCk MHs b_len
  have HAs := okHAs0 T TS hAs MSA b_sorted b_enumerate
  have CM := okMixed (P := l.prog) (w := w) (base := base) GM
  have CD := okDigits (P := l.prog) (w := w) (base := base) GD
  have CN := okNext GN CM
  have CC := okCell (P := l.prog) (w := w) (base := base) GC b_len
  have CNa := okNames GNa CN b_range
  have CA := okAlike (P := l.prog) (w := w) (base := base) GAl b_isinstance b_list b_tuple b_bool b_len b_all b_range 4
  have CKH := okKindsH (P := l.prog) (w := w) (base := base) kn GK b_isinstance b_len b_range b_ValueError
  have CO := okOdd GO CN b_len
  have CT := okTo T GT HA HR HI HH b_range
  have CMd := okMd GMd CD CN CNa b_len b_range
  have CWr := okWr GWr CN CO b_len b_range b_tuple
  have CRe := okRe GRe MHX CKH mgT hex
  exact okLaw T FL CC CD CMd MH CT CA HAs CWr CRe b_len b_range b_min b_list
theorem walk {l : PySem.W.OpenLaw} {q : Program} {loose : List Str} {XP : (Str → Option Value) → Heap → Prop} {YP : World → Heap → Prop} {d : DefRec} {K : Params → PySem.W.Frag} (hn : l.most = some 63) (hdf : d.params.defaults = [])
    (hY : ∀ (w : World) (h : Heap), YP w h → (K w.params).In h)
    (F : ∀ (w : World) (mg : Str → Option Value) (fa : Addr) (h : Heap), (K w.params).In h → h.Ns mainGlobals mg → mg d.name = some (.ref fa) →
      ∃ fd : FuncData, (∀ (s : Shared) (u : Value), BindsTo s fd ⟨[u], []⟩ [("_law_script", u)]) ∧ ∀ base : Heap, (K w.params).In base → base.Ns mainGlobals mg → FnOk l.prog w (K w.params) mg base CX0 7 fa fd ["_law_script"] (spLaw (K w.params))) :
    PySem.W.WalkO q loose XP YP l.row.toRowW d [] (fun f vs => PySem.call f vs) :=
  L2.walk_of (n := 63) (k := 7) (x := "_law_script") (CX := fun _ => CX0) (sp := fun w => spLaw (K w.params)) hn (by decide) hdf ⟨rfl, by decide, by decide⟩ hY F (fun _ _ a ns hl _ hS => ⟨a, ns, rfl, hS, hl, fun _ => rfl⟩) fun _ _ _ _ _ z => z
end K21
open PySem PySem.W PyProof.Rows
set_option maxRecDepth 100000 in
set_option maxHeartbeats 0 in
theorem PySem.Challenge.cw_treeright_k21_houses_made_holds : PySem.Challenge.rw_treeright_k21_houses_made.Holds := by
  refine head ?_
  k_fill
  refine K21.walk (l := PySem.Challenge.rw_treeright_k21_houses_made) rfl rfl (fun w h Y => PySem.W.kIn_of Y) ?F
  case F =>
    intro w mg fa h KX G hmg
    refine' K21.all_mk KX G hmg ?a0 ?l0 ?c0 ?k0 ?a1 ?l1 ?c1 ?k1 ?a2 ?l2 ?c2 ?k2 ?a3 ?l3 ?c3 ?k3 ?a4 ?l4 ?c4 ?k4 ?a5 ?l5 ?c5 ?k5 ?a6 ?l6 ?c6 ?k6 ?a7 ?l7 ?c7 ?k7 ?a8 ?l8 ?c8 ?k8 ?a9 ?l9 ?c9 ?k9 ?a10 ?l10 ?c10 ?k10 ?a11 ?l11 ?c11 ?k11 ?a12 ?l12 ?c12 ?k12 ?a13 ?l13 ?c13 ?k13 ?a14 ?l14 ?c14 ?k14 ?a15 ?l15 ?c15 ?k15 ?a16 ?l16 ?c16 ?k16 ?a17 ?l17 ?c17 ?k17 ?a18 ?l18 ?c18 ?k18 ?a19 ?l19 ?c19 ?k19 ?a20 ?l20 ?c20 ?k20 ?aC_CS ?aCS_0 ?iCS_0 ?lCS_0 ?cCS_0 ?kCS_0 ?aCS_1 ?iCS_1 ?lCS_1 ?cCS_1 ?kCS_1 ?aCS_2 ?iCS_2 ?lCS_2 ?cCS_2 ?kCS_2 ?aCS_3 ?iCS_3 ?lCS_3 ?cCS_3 ?kCS_3 ?aCS_4 ?iCS_4 ?lCS_4 ?cCS_4 ?kCS_4 ?aCS_5 ?iCS_5 ?lCS_5 ?cCS_5 ?kCS_5 ?pg_CS ?hd_CS ?po_CS ?sa_CS ?mk_CS ?kc_CS ?n_CS_pointer ?n_CS_waiting ?n_CS_holder ?n_CS_asked ?aC_C ?aC_0 ?iC_0 ?lC_0 ?cC_0 ?kC_0 ?aC_1 ?iC_1 ?lC_1 ?cC_1 ?kC_1 ?aC_2 ?iC_2 ?lC_2 ?cC_2 ?kC_2 ?aC_3 ?iC_3 ?lC_3 ?cC_3 ?kC_3 ?aC_4 ?iC_4 ?lC_4 ?cC_4 ?kC_4 ?aC_5 ?iC_5 ?lC_5 ?cC_5 ?kC_5 ?pg_C ?hd_C ?po_C ?sa_C ?mk_C ?kc_C ?n_C_name ?n_C_nearby ?n_C_seats ?z_isinstance ?z_str ?z_int ?z_bool ?z_len ?z_all ?z_range ?z_list ?z_tuple ?z_set ?z_sorted ?z_enumerate ?z_min ?z_ValueError ?g_LETTERS ?g_LONGEST_NAME ?aX_0 ?aX_1 ?aX_2 ?aX_3 ?aX_4 ?aX_5 ?aX_6 ?aX_7 ?aX_8 ?aX_9 ?aX_10 ?aX_11 ?aX_12 ?xtab ?xall
    (case a0 => k_is)
    (case l0 => k_is)
    (case c0 => k_is)
    (case k0 => k_is)
    (case a1 => k_is)
    (case l1 => k_is)
    (case c1 => k_is)
    (case k1 => k_is)
    (case a2 => k_is)
    (case l2 => k_is)
    (case c2 => k_is)
    (case k2 => k_is)
    (case a3 => k_is)
    (case l3 => k_is)
    (case c3 => k_is)
    (case k3 => k_is)
    (case a4 => k_is)
    (case l4 => k_is)
    (case c4 => k_is)
    (case k4 => k_is)
    (case a5 => k_is)
    (case l5 => k_is)
    (case c5 => k_is)
    (case k5 => k_is)
    (case a6 => k_is)
    (case l6 => k_is)
    (case c6 => k_is)
    (case k6 => k_is)
    (case a7 => k_is)
    (case l7 => k_is)
    (case c7 => k_is)
    (case k7 => k_is)
    (case a8 => k_is)
    (case l8 => k_is)
    (case c8 => k_is)
    (case k8 => k_is)
    (case a9 => k_is)
    (case l9 => k_is)
    (case c9 => k_is)
    (case k9 => k_is)
    (case a10 => k_is)
    (case l10 => k_is)
    (case c10 => k_is)
    (case k10 => k_is)
    (case a11 => k_is)
    (case l11 => k_is)
    (case c11 => k_is)
    (case k11 => k_is)
    (case a12 => k_is)
    (case l12 => k_is)
    (case c12 => k_is)
    (case k12 => k_is)
    (case a13 => k_is)
    (case l13 => k_is)
    (case c13 => k_is)
    (case k13 => k_is)
    (case a14 => k_is)
    (case l14 => k_is)
    (case c14 => k_is)
    (case k14 => k_is)
    (case a15 => k_is)
    (case l15 => k_is)
    (case c15 => k_is)
    (case k15 => k_is)
    (case a16 => k_is)
    (case l16 => k_is)
    (case c16 => k_is)
    (case k16 => k_is)
    (case a17 => k_is)
    (case l17 => k_is)
    (case c17 => k_is)
    (case k17 => k_is)
    (case a18 => k_is)
    (case l18 => k_is)
    (case c18 => k_is)
    (case k18 => k_is)
    (case a19 => k_is)
    (case l19 => k_is)
    (case c19 => k_is)
    (case k19 => k_is)
    (case a20 => k_is)
    (case l20 => k_is)
    (case c20 => k_is)
    (case k20 => k_is)
    (case aC_CS => k_is)
    (case aCS_0 => k_is)
    (case iCS_0 => k_is)
    (case lCS_0 => k_is)
    (case cCS_0 => k_is)
    (case kCS_0 => k_is)
    (case aCS_1 => k_is)
    (case iCS_1 => k_is)
    (case lCS_1 => k_is)
    (case cCS_1 => k_is)
    (case kCS_1 => k_is)
    (case aCS_2 => k_is)
    (case iCS_2 => k_is)
    (case lCS_2 => k_is)
    (case cCS_2 => k_is)
    (case kCS_2 => k_is)
    (case aCS_3 => k_is)
    (case iCS_3 => k_is)
    (case lCS_3 => k_is)
    (case cCS_3 => k_is)
    (case kCS_3 => k_is)
    (case aCS_4 => k_is)
    (case iCS_4 => k_is)
    (case lCS_4 => k_is)
    (case cCS_4 => k_is)
    (case kCS_4 => k_is)
    (case aCS_5 => k_is)
    (case iCS_5 => k_is)
    (case lCS_5 => k_is)
    (case cCS_5 => k_is)
    (case kCS_5 => k_is)
    (case pg_CS => k_is)
    (case hd_CS => k_is)
    (case po_CS => k_is)
    (case sa_CS => k_is)
    (case mk_CS => k_is)
    (case kc_CS => k_is)
    (case n_CS_pointer => k_is)
    (case n_CS_waiting => k_is)
    (case n_CS_holder => k_is)
    (case n_CS_asked => k_is)
    (case aC_C => k_is)
    (case aC_0 => k_is)
    (case iC_0 => k_is)
    (case lC_0 => k_is)
    (case cC_0 => k_is)
    (case kC_0 => k_is)
    (case aC_1 => k_is)
    (case iC_1 => k_is)
    (case lC_1 => k_is)
    (case cC_1 => k_is)
    (case kC_1 => k_is)
    (case aC_2 => k_is)
    (case iC_2 => k_is)
    (case lC_2 => k_is)
    (case cC_2 => k_is)
    (case kC_2 => k_is)
    (case aC_3 => k_is)
    (case iC_3 => k_is)
    (case lC_3 => k_is)
    (case cC_3 => k_is)
    (case kC_3 => k_is)
    (case aC_4 => k_is)
    (case iC_4 => k_is)
    (case lC_4 => k_is)
    (case cC_4 => k_is)
    (case kC_4 => k_is)
    (case aC_5 => k_is)
    (case iC_5 => k_is)
    (case lC_5 => k_is)
    (case cC_5 => k_is)
    (case kC_5 => k_is)
    (case pg_C => k_is)
    (case hd_C => k_is)
    (case po_C => k_is)
    (case sa_C => k_is)
    (case mk_C => k_is)
    (case kc_C => k_is)
    (case n_C_name => k_is)
    (case n_C_nearby => k_is)
    (case n_C_seats => k_is)
    (case z_isinstance => k_is)
    (case z_str => k_is)
    (case z_int => k_is)
    (case z_bool => k_is)
    (case z_len => k_is)
    (case z_all => k_is)
    (case z_range => k_is)
    (case z_list => k_is)
    (case z_tuple => k_is)
    (case z_set => k_is)
    (case z_sorted => k_is)
    (case z_enumerate => k_is)
    (case z_min => k_is)
    (case z_ValueError => k_is)
    (case g_LETTERS => k_is)
    (case g_LONGEST_NAME => k_is)
    (case aX_0 => k_is)
    (case aX_1 => k_is)
    (case aX_2 => k_is)
    (case aX_3 => k_is)
    (case aX_4 => k_is)
    (case aX_5 => k_is)
    (case aX_6 => k_is)
    (case aX_7 => k_is)
    (case aX_8 => k_is)
    (case aX_9 => k_is)
    (case aX_10 => k_is)
    (case aX_11 => k_is)
    (case aX_12 => k_is)
    (case xtab => kernel_rfl)
    (case xall => kernel_rfl)
