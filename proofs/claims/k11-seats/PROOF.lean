import PyProof.Rows.All
import Wide.All
import OpenK.AllK
import Wide.FinOn
import Lean
import PyProof.EqAt
import PyProof.EqKinds
import PyProof.TupleCall
import PySem.Challenge.RW_treeright_k11_seats_made
set_option Elab.async false
set_option linter.all false
set_option maxRecDepth 100000
/-! THE HAND LAYER, for ints, bools, texts, own classes, LISTS and tuples (index, slices, in, append, pop ..), calls, loops. Paste it whole ahead of your own text; what your proof does not reach may be deleted. -/
namespace L2
open PySem PySem.Spec PyProof.Rows

/-- a key: an int or a str -/
noncomputable abbrev Key := Sum Int Str
noncomputable def keyIs : Key → Value → Bool
  | .inl k, v => Value.isInt k v
  | .inr x, v => Value.isStrOf x v
noncomputable def keyH (w : World) : Key → Int
  | .inl k => hashInt k
  | .inr x => hashStr w x
theorem keyIs_shape : ∀ {k : Key} {v : Value}, keyIs k v = true → (∃ i t, k = Sum.inl i ∧ v = Value.int i t) ∨ (∃ x t, k = Sum.inr x ∧ v = Value.str x t)
  | .inl i, v, h => by
    obtain ⟨t, e⟩ := Value.isInt_shape (k := i) (v := v) h
    exact .inl ⟨i, t, rfl, e⟩
  | .inr x, v, h => by
    obtain ⟨t, e⟩ := Value.isStrOf_shape (x := x) (v := v) h
    exact .inr ⟨x, t, rfl, e⟩
theorem key_ll (a b : Int) : decide ((Sum.inl a : Key) = Sum.inl b) = (a == b) := by
  by_cases e : a = b
  · subst e; simp
  · have h : ¬ (Sum.inl a : Key) = Sum.inl b := fun q => e (Sum.inl.inj q)
    rw [decide_eq_false h]
    exact (beq_eq_false_iff_ne.mpr e).symm
theorem key_rr (a b : Str) : decide ((Sum.inr a : Key) = Sum.inr b) = decide (a = b) := by
  by_cases e : a = b
  · subst e; simp
  · have h : ¬ (Sum.inr a : Key) = Sum.inr b := fun q => e (Sum.inr.inj q)
    rw [decide_eq_false h, decide_eq_false e]
theorem key_lr (a : Int) (b : Str) : decide ((Sum.inl a : Key) = Sum.inr b) = false := decide_eq_false (fun q => nomatch q)
theorem key_rl (a : Str) (b : Int) : decide ((Sum.inr a : Key) = Sum.inl b) = false := decide_eq_false (fun q => nomatch q)

noncomputable def mixKind (prog : Program) (w : World) : PySem.KeyKind prog w Key where
  is := keyIs
  hash := keyH w
  inj := fun v a b ha hb => by
    rcases keyIs_shape ha with ⟨i, t, rfl, rfl⟩ | ⟨x, t, rfl, rfl⟩
    · rcases keyIs_shape hb with ⟨j, u, rfl, e⟩ | ⟨y, u, rfl, e⟩
      · injection e with e1 _; rw [e1]
      · exact nomatch e
    · rcases keyIs_shape hb with ⟨j, u, rfl, e⟩ | ⟨y, u, rfl, e⟩
      · exact nomatch e
      · injection e with e1 _; rw [e1]
  byValue := fun k v h => by
    rcases keyIs_shape h with ⟨i, t, rfl, rfl⟩ | ⟨x, t, rfl, rfl⟩ <;> rfl
  pyHash := fun hv h => by
    rcases keyIs_shape hv with ⟨i, t, rfl, rfl⟩ | ⟨x, t, rfl, rfl⟩
    · exact wpAny_pyHash_int h
    · exact wpAny_pyHash_str h
  eqBool := fun hu hv h => by
    rcases keyIs_shape hu with ⟨i, t, rfl, rfl⟩ | ⟨x, t, rfl, rfl⟩
    · rcases keyIs_shape hv with ⟨j, u, rfl, rfl⟩ | ⟨y, u, rfl, rfl⟩
      · rw [key_ll] at h; exact wpAny_eqBool_int h
      · rw [key_lr] at h; exact SeqAt.EqAt.int_str i t y u _ _ _ _ h
    · rcases keyIs_shape hv with ⟨j, u, rfl, rfl⟩ | ⟨y, u, rfl, rfl⟩
      · rw [key_rl] at h; exact SeqAt.EqAt.str_int x t j u _ _ _ _ h
      · rw [key_rr] at h; exact wpAny_eqBool_str h
  «strs» := fun k x t v h => by
    rcases keyIs_shape h with ⟨i, u, rfl, e⟩ | ⟨y, u, rfl, e⟩
    · exact nomatch e
    · injection e with e1 _
      subst e1
      cases v <;> rfl

end L2

namespace L2
open PySem PySem.Spec PyProof.Rows

/-- a value, without the heap -/
inductive V where
  | non | bl (b : Bool) | int (i : Int) | str (x : Str) | byt (b : Array UInt8) | flt (b : UInt64) | ref (a : Addr) | ty (n : String)
  deriving DecidableEq

noncomputable def RelV : V → Value → Prop
  | .non, u => u = Value.none
  | .bl b, u => u = Value.bool b
  | .int i, u => ∃ t, u = Value.int i t
  | .str x, u => ∃ t, u = Value.str x t
  | .byt b, u => ∃ t, u = Value.bytes b t
  | .flt b, u => ∃ t, u = Value.float b t
  | .ref a, u => u = Value.ref a
  | .ty n, u => u = Value.type n

noncomputable abbrev Vals : List V → List Value → Prop := Paired RelV
theorem Vals.length {xs : List V} {us : List Value} (r : Vals xs us) : xs.length = us.length := Paired.length r
theorem Vals.get : ∀ {xs : List V} {us : List Value} {i : Nat} {x : V}, Vals xs us → xs[i]? = some x → ∃ u, us[i]? = some u ∧ RelV x u
  | _, _, _, _, .nil, e => by simp at e
  | _, _, 0, _, .cons r _, e => by simp at e; subst e; exact ⟨_, rfl, r⟩
  | _, _, i + 1, x, .cons _ t, e => by
    obtain ⟨u, h1, h2⟩ := Vals.get (i := i) (x := x) t (by simpa using e)
    exact ⟨u, by simpa using h1, h2⟩
theorem Vals.set {x : V} {u : Value} (r : RelV x u) : ∀ {xs : List V} {us : List Value} (i : Nat), Vals xs us → Vals (xs.set i x) (us.set i u)
  | _, _, _, .nil => .nil
  | _, _, 0, .cons _ t => .cons r t
  | _, _, i + 1, .cons q t => .cons q (Vals.set r i t)
theorem Vals.append {xs ys : List V} {us ws : List Value} (h : Vals xs us) (s : Vals ys ws) : Vals (xs ++ ys) (us ++ ws) := by
  induction h with
  | nil => exact s
  | cons r _ ih => exact .cons r ih
theorem Vals.take : ∀ {xs : List V} {us : List Value} (n : Nat), Vals xs us → Vals (xs.take n) (us.take n)
  | _, _, 0, _ => .nil
  | _, _, _ + 1, .nil => .nil
  | _, _, n + 1, .cons r t => .cons r (Vals.take n t)
theorem Vals.drop : ∀ {xs : List V} {us : List Value} (n : Nat), Vals xs us → Vals (xs.drop n) (us.drop n)
  | _, _, 0, r => r
  | _, _, _ + 1, .nil => .nil
  | _, _, n + 1, .cons _ t => Vals.drop n t
noncomputable def RelO : Option V → Option Value → Prop
  | some v, some u => RelV v u
  | none, none => True
  | _, _ => False
noncomputable def KV {κ : Type} : List (κ × V) → List (κ × Value) → Prop := Paired fun (p : κ × V) (q : κ × Value) => p.1 = q.1 ∧ RelV p.2 q.2

/-- a key of a dict (00_mix): an int or a text -/
noncomputable def kV : Key → V
  | .inl i => .int i
  | .inr x => .str x

/-- what stands at a tracked address -/
inductive HO where
  /-- a list -/
  | lst (xs : List V)
  /-- a tuple (never changes) -/
  | tup (xs : List V)
  /-- a dict whose keys are ints and texts; one whose keys are tuples of ints and texts (the empty one is both) -/
  | dK (kvs : List (Key × V)) | dT (kvs : List (List Key × V))
  /-- a set of ints: its members, its size -/
  | set (S : Int → Bool) (n : Nat)
  /-- an instance of the class at C, its dict at dx, its attributes -/
  | ins (C dx : Addr) (fs : List (Str × V))
  /-- the dict of the instance at x -/
  | own (x : Addr)
  /-- the dict of an exception -/
  | xd (fs : List (Str × V))
  /-- a bound method, f of x -/
  | met (f x : Addr)
  /-- a range object lo, lo + 1, .. below hi -/
  | rng (lo hi : Int)
  /-- a thing that is known to the object (the script; a dict while a loop walks it): read, never written while it is so -/
  | frz (o : Obj) (u : HO)
  /-- a code object's table -/
  | tbl (ps : Array Value)
  /-- any other thing, by what is true of its one object (a def of one's own: SetO a S n := HO.ext fun h => ..) -/
  | ext (φ : Heap → Prop)

noncomputable abbrev Hp := Addr → Option HO
noncomputable def upd (H : Hp) (a : Addr) (o : HO) : Hp := fun b => if b = a then some o else H b
theorem upd_same {H : Hp} {a : Addr} {o : HO} : upd H a o a = some o := by unfold upd; rw [if_pos rfl]
theorem upd_ne {H : Hp} {a b : Addr} {o : HO} (h : b ≠ a) : upd H a o b = H b := by unfold upd; rw [if_neg h]
theorem upd_upd {H : Hp} {a : Addr} {o u : HO} : upd (upd H a o) a u = upd H a u := by
  funext b; unfold upd; split <;> rfl
theorem ne_of_none {H : Hp} {a b : Addr} {o : HO} (h : H a = some o) (h' : H b = none) : a ≠ b := by
  intro e; subst e; rw [h] at h'; cases h'

section
variable (P : Program) (w : World)
noncomputable def ObjOk (H : Hp) (h : Heap) (a : Addr) : HO → Prop
  | .lst xs => xs.length ≤ sizeLine ∧ ∃ (its : List Value) (n : Nat), Vals xs its ∧ h.get? a = some { cls := .type "list", data := .seq its.toArray n }
  | .tup xs => xs.length ≤ sizeLine ∧ ∃ its : List Value, Vals xs its ∧ IsTup h a its.toArray
  | .dK kvs => kvs.length ≤ sizeLine ∧ (a == sysModules) = false ∧ ∃ vs, KV kvs vs ∧ h.DictOf (mixKind P w) a vs
  | .dT kvs => kvs.length ≤ sizeLine ∧ (a == sysModules) = false ∧ ∃ xs : List (List Key × Addr × Value),
      Paired (fun (p : List Key × V) (q : List Key × Addr × Value) => p.1 = q.1 ∧ H q.2.1 = some (.tup (p.1.map kV)) ∧ RelV p.2 q.2.2) kvs xs ∧
      ∃ o es ep, h.get? a = some o ∧ o.ExactDict ∧ o.data = .dict es ep ∧ es.toList = xs.map (entryOfKey (tupleKind (mixKind P w))) ∧ (xs.map (·.1)).Nodup
  | .set S n => h.SetOf (intKind P w) a S n
  | .ins C dx fs => H dx = some (.own a) ∧ fs.length ≤ 1000 ∧ dx ≠ a ∧ h.get? a = some (PySem.W.instObj C dx) ∧
      ∃ mA, h.Ns1 dx mA ∧ (∀ f, RelO (fs.lookup f) (mA f)) ∧ PySem.Within mA (fs.map (·.1))
  | .own _ => ∃ o, h.get? a = some o
  | .xd fs => ∃ mA, h.Ns1 a mA ∧ ∀ f, RelO (fs.lookup f) (mA f)
  | .rng lo hi => ∃ t u v, h.get? a = some { cls := .type "range", data := .fields #[.int lo t, .int hi u, .int 1 v] }
  | .frz o u => h.get? a = some o ∧ ObjOk H h a u
  | .tbl ps => h.get? a = some { cls := .none, data := .fields ps }
  | .met f x => h.get? a = some (PySem.W.methodObj (.ref f) (.ref x))
  | .ext φ => φ h ∧ (∃ o, h.get? a = some o) ∧ ∀ h1 h2 : Heap, φ h1 → (∀ o, h1.get? a = some o → h2.get? a = some o) → φ h2
/-- the abstract heap is held -/
noncomputable def HOk (H : Hp) (h : Heap) : Prop := ∀ a o, H a = some o → ObjOk P w H h a o
end

section
variable {P : Program} {w : World} {H H' : Hp} {h h' : Heap} {a : Addr} {o : HO}
theorem ObjOk.lt (x : ObjOk P w H h a o) : a < h.objs.size := by
  cases o with
  | lst xs => obtain ⟨_, _, _, _, e⟩ := x; exact Heap.lt_size e
  | tup xs => obtain ⟨_, _, _, p⟩ := x; exact p.lt
  | dK kvs => obtain ⟨_, _, _, _, o, _, _, e, _⟩ := x; exact Heap.lt_size e
  | dT kvs => obtain ⟨_, _, _, _, o, _, _, e, _⟩ := x; exact Heap.lt_size e
  | set S n => obtain ⟨o, _, _, _, e, _⟩ := x; exact Heap.lt_size e
  | ins C dx fs => obtain ⟨_, _, _, e, _⟩ := x; exact Heap.lt_size e
  | own y => obtain ⟨_, e⟩ := x; exact Heap.lt_size e
  | xd fs => obtain ⟨_, ⟨_, _, _, e, _⟩, _⟩ := x; exact Heap.lt_size e
  | rng lo hi => obtain ⟨_, _, _, e⟩ := x; exact Heap.lt_size e
  | frz ob u => obtain ⟨e, _⟩ := x; exact Heap.lt_size e
  | tbl ps => exact Heap.lt_size (show h.get? a = some _ from x)
  | met f y => exact Heap.lt_size (show h.get? a = some _ from x)
  | ext φ => obtain ⟨_, ⟨_, e⟩, _⟩ := x; exact Heap.lt_size e
theorem Paired.mapP {α β : Type} {F G : α → β → Prop} {l₁ : List α} {l₂ : List β} (h : Paired F l₁ l₂) (f : ∀ a b, F a b → G a b) : Paired G l₁ l₂ := by
  induction h with
  | nil => exact .nil
  | cons r _ ih => exact .cons (f _ _ r) ih
/-- what an object's description leans on: its own object, its own dict, the tuples -/
theorem ObjOk.stay (x : ObjOk P w H h a o) (k : ∀ b u, (b = a ∨ H b = some (.own a)) → h.get? b = some u → h'.get? b = some u)
    (ho : ∀ b, H b = some (.own a) → H' b = some (.own a)) (ht : ∀ b xs, H b = some (.tup xs) → H' b = some (.tup xs)) : ObjOk P w H' h' a o := by
  induction o with
  | lst xs => obtain ⟨z, its, n, r, e⟩ := x; exact ⟨z, its, n, r, k _ _ (.inl rfl) e⟩
  | tup xs => obtain ⟨z, its, r, ob, e, c⟩ := x; exact ⟨z, its, r, ob, k _ _ (.inl rfl) e, c⟩
  | dK kvs => obtain ⟨z, y, vs, r, ob, es, ep, e, c⟩ := x; exact ⟨z, y, vs, r, ob, es, ep, k _ _ (.inl rfl) e, c⟩
  | dT kvs =>
    obtain ⟨z, y, xs, r, ob, es, ep, e, c⟩ := x
    exact ⟨z, y, xs, Paired.mapP r fun p q z => ⟨z.1, ht _ _ z.2.1, z.2.2⟩, ob, es, ep, k _ _ (.inl rfl) e, c⟩
  | set S n => obtain ⟨ob, es, ep, t, e, c⟩ := x; exact ⟨ob, es, ep, t, k _ _ (.inl rfl) e, c⟩
  | ins C dx fs =>
    obtain ⟨d, z, ne, e, mA, ⟨od, es, ep, e2, c⟩, r⟩ := x
    exact ⟨ho _ d, z, ne, k _ _ (.inl rfl) e, mA, ⟨od, es, ep, k _ _ (.inr d) e2, c⟩, r⟩
  | own y => obtain ⟨ob, e⟩ := x; exact ⟨ob, k _ _ (.inl rfl) e⟩
  | xd fs => obtain ⟨mA, ⟨od, es, ep, e, c⟩, r⟩ := x; exact ⟨mA, ⟨od, es, ep, k _ _ (.inl rfl) e, c⟩, r⟩
  | rng lo hi => obtain ⟨t, u, v, e⟩ := x; exact ⟨t, u, v, k _ _ (.inl rfl) e⟩
  | frz ob u ih => obtain ⟨e, q⟩ := x; exact ⟨k _ _ (.inl rfl) e, ih q⟩
  | tbl ps =>
    have e : h.get? a = some { cls := .none, data := .fields ps } := x
    show h'.get? a = some { cls := .none, data := .fields ps }
    exact k a _ (.inl rfl) e
  | met f y =>
    have e : h.get? a = some (PySem.W.methodObj (.ref f) (.ref y)) := x
    show h'.get? a = some (PySem.W.methodObj (.ref f) (.ref y))
    exact k a _ (.inl rfl) e
  | ext φ => obtain ⟨p, ⟨o, e⟩, st⟩ := x; exact ⟨st _ _ p fun o q => k _ _ (.inl rfl) q, ⟨o, k _ _ (.inl rfl) e⟩, st⟩
theorem HOk.lt (x : HOk P w H h) (e : H a = some o) : a < h.objs.size := (x a o e).lt
theorem HOk.fresh (x : HOk P w H h) (e : h.objs.size ≤ a) : H a = none := by
  cases q : H a with
  | none => rfl
  | some u => exact absurd (Nat.lt_of_lt_of_le (x.lt q) e) (Nat.lt_irrefl _)
/-- every object of the heap is kept -/
theorem HOk.kept (x : HOk P w H h) (k : ∀ b u, h.get? b = some u → h'.get? b = some u) : HOk P w H h' := fun a o e =>
  (x a o e).stay (fun b u _ q => k b u q) (fun _ q => q) fun _ _ q => q
/-- a new object is laid and tracked -/
theorem HOk.laid (x : HOk P w H h) (k : ∀ b u, h.get? b = some u → h'.get? b = some u) (hp : h.objs.size ≤ a) (new : ObjOk P w (upd H a o) h' a o) : HOk P w (upd H a o) h' := fun b u e => by
  have hn := x.fresh hp
  by_cases hb : b = a
  · subst hb; rw [upd_same] at e; cases e; exact new
  · rw [upd_ne hb] at e
    exact (x b u e).stay (fun c v _ q => k c v q) (fun c q => by rw [upd_ne (ne_of_none q hn)]; exact q) fun c xs q => by rw [upd_ne (ne_of_none q hn)]; exact q
end

/-- what may be read as u: it is u, or a known u -/
noncomputable def Rd (H : Hp) (a : Addr) (u : HO) : Prop := H a = some u ∨ ∃ o, H a = some (.frz o u)
theorem Rd.ok {P : Program} {w : World} {H : Hp} {h : Heap} {a : Addr} {u : HO} (r : Rd H a u) (x : HOk P w H h) : ObjOk P w H h a u := by
  rcases r with r | ⟨o, r⟩
  · exact x a u r
  · obtain ⟨_, q⟩ := x a _ r
    exact q
/-- what may be written -/
noncomputable def Mut : Option HO → Prop
  | some (.lst _) => True
  | some (.dK _) => True
  | some (.dT _) => True
  | some (.set _ _) => True
  | some (.ins _ _ _) => True
  | some (.ext _) => True
  | _ => False
section
variable {P : Program} {w : World} {H : Hp} {h h' : Heap} {x e : Addr} {o' : HO}
/-- the object at e is changed: x itself, or the dict of the instance x -/
theorem HOk.write (ok : HOk P w H h) (mu : Mut (H x)) (he : e = x ∨ H e = some (.own x)) (k : ∀ b u, b ≠ e → h.get? b = some u → h'.get? b = some u) (heo : ∃ u, h'.get? e = some u)
    (new : ObjOk P w (upd H x o') h' x o') : HOk P w (upd H x o') h' := fun b u q => by
  have nown : ∀ c y, H c = some (.own y) → c ≠ x := fun c y r z => by subst z; rw [r] at mu; exact mu
  have ntup : ∀ c xs, H c = some (.tup xs) → c ≠ x := fun c xs r z => by subst z; rw [r] at mu; exact mu
  by_cases hb : b = x
  · subst hb; rw [upd_same] at q; cases q; exact new
  · rw [upd_ne hb] at q
    by_cases hbe : b = e
    · have q' : H b = some (.own x) := by
        rcases he with z | z
        · exact absurd (hbe.trans z) hb
        · rw [hbe]; exact z
      rw [q] at q'; cases q'
      obtain ⟨v, hv⟩ := heo
      exact ⟨v, by rw [hbe]; exact hv⟩
    · refine (ok b u q).stay (fun c v hc r => k c v ?_ r) (fun c r => by rw [upd_ne (nown c b r)]; exact r) fun c xs r => by rw [upd_ne (ntup c xs r)]; exact r
      rcases hc with rfl | hc
      · exact hbe
      · rintro rfl
        rcases he with z | z
        · exact nown c b hc z
        · rw [hc] at z; cases z; exact hb rfl
end

/-! ### kept unless tracked; of the frames at fs (the callers') the slots may change (an exception that passes writes there); of the records at ex (iterators) nothing is said -/
structure Un (fs ex : List Addr) (H H' : Hp) (h h' : Heap) : Prop where
  keep : ∀ b o, h.get? b = some o → H b = none → b ∉ fs → b ∉ ex → h'.get? b = some o
  slot : ∀ b o, h.get? b = some o → H b = none → b ∈ fs → b ∉ ex → ∃ sl, h'.get? b = some { o with slots := sl }
  free : ∀ b o, h.get? b = some o → H b = none → b ∉ ex → H' b = none
  there : ∀ b o, h.get? b = some o → b ∉ ex → ∃ o', h'.get? b = some o'
  tups : ∀ b xs, H b = some (.tup xs) → H' b = some (.tup xs)
  frzs : ∀ b o u, H b = some (.frz o u) → H' b = some (.frz o u)
  tbls : ∀ b ps, H b = some (.tbl ps) → ∃ more, H' b = some (.tbl (ps ++ more))
section
variable {fs fs' ex ex' : List Addr} {H H1 H2 : Hp} {h h1 h2 h' : Heap} {a x e : Addr} {o : HO}
theorem Un.any (u : Un fs ex H H1 h h1) {b : Addr} {ob : Obj} (q : h.get? b = some ob) (n : H b = none) (hx : b ∉ ex) : ∃ sl, h1.get? b = some { ob with slots := sl } := by
  by_cases hb : b ∈ fs
  · exact u.slot b ob q n hb hx
  · exact ⟨ob.slots, u.keep b ob q n hb hx⟩
theorem Un.kept (k : ∀ b u, h.get? b = some u → h'.get? b = some u) : Un fs ex H H h h' :=
  ⟨fun b ob q _ _ _ => k b ob q, fun b ob q _ _ _ => ⟨ob.slots, k b ob q⟩, fun _ _ _ n _ => n, fun b ob q _ => ⟨ob, k b ob q⟩, fun _ _ q => q, fun _ _ _ q => q, fun _ ps q => ⟨#[], by rw [q]; simp⟩⟩
theorem Un.refl : Un fs ex H H h h := Un.kept fun _ _ q => q
theorem Un.laid (k : ∀ b u, h.get? b = some u → h'.get? b = some u) (hp : h.objs.size ≤ a) (hn : H a = none) : Un fs ex H (upd H a o) h h' where
  keep := fun b u q _ _ _ => k b u q
  slot := fun b u q _ _ _ => ⟨u.slots, k b u q⟩
  free := fun b u q n _ => by rw [upd_ne (Nat.ne_of_lt (Nat.lt_of_lt_of_le (Heap.lt_size q) hp))]; exact n
  there := fun b u q _ => ⟨u, k b u q⟩
  tups := fun b xs q => by rw [upd_ne (ne_of_none q hn)]; exact q
  frzs := fun b u xs q => by rw [upd_ne (ne_of_none q hn)]; exact q
  tbls := fun b ps q => ⟨#[], by rw [upd_ne (ne_of_none q hn), q]; simp⟩
theorem Un.write (mu : Mut (H x)) (he : e = x ∨ H e = some (.own x)) (k : ∀ b u, b ≠ e → h.get? b = some u → h'.get? b = some u) (heo : ∃ u, h'.get? e = some u) : Un fs ex H (upd H x o) h h' := by
  have hx : ∀ b, H b = none → b ≠ x := fun b n z => by subst z; rw [n] at mu; exact mu
  have hb : ∀ b, H b = none → b ≠ e := fun b n z => by
    subst z
    rcases he with r | r
    · exact hx b n r
    · rw [n] at r; cases r
  have hm : ∀ b u, H b = some u → ¬ Mut (some u) → b ≠ x := fun b u q nm z => by subst z; rw [q] at mu; exact nm mu
  refine ⟨fun b u q n _ _ => k b u (hb b n) q, fun b u q n _ _ => ⟨u.slots, k b u (hb b n) q⟩, fun b u q n _ => by rw [upd_ne (hx b n)]; exact n, fun b u q _ => ?_,
    fun b xs q => by rw [upd_ne (hm b _ q fun z => z)]; exact q, fun b u xs q => by rw [upd_ne (hm b _ q fun z => z)]; exact q, fun b ps q => ⟨#[], by rw [upd_ne (hm b _ q fun z => z), q]; simp⟩⟩
  by_cases hbe : b = e
  · subst hbe; exact heo
  · exact ⟨u, k b u hbe q⟩
end

/-! ### the heap without what is tracked -/
noncomputable def trk (h : Heap) (H : Hp) : List Addr := (List.range h.objs.size).filter fun a => (H a).isSome
noncomputable def hidT (h : Heap) (H : Hp) : Heap := PySem.W.hideAll h (trk h H)
theorem hidT_size (h : Heap) (H : Hp) : (hidT h H).objs.size = h.objs.size := PySem.W.hideAll_size _ _
theorem hidT_get {h : Heap} {H : Hp} {b : Addr} {o : Obj} (e : h.get? b = some o) (n : H b = none) : (hidT h H).get? b = some o :=
  PySem.W.hideAll_get _ e fun hm => by
    have q : (H b).isSome = true := (List.mem_filter.mp hm).2
    rw [n] at q; simp at q
theorem of_hidT {h : Heap} {H : Hp} {b : Addr} {o : Obj} (e : (hidT h H).get? b = some o) : h.get? b = some o ∧ H b = none := by
  have e' : h.get? b = some o := PySem.W.of_hideAll (trk h H) e
  refine ⟨e', ?_⟩
  cases q : H b with
  | none => rfl
  | some x =>
    have hm : b ∈ trk h H := List.mem_filter.mpr ⟨List.mem_range.mpr (Heap.lt_size e'), by simp [q]⟩
    have z : (hidT h H).get? b = none := PySem.W.hideAll_none (trk h H) hm
    rw [z] at e; cases e

/-! ### OpenK's ledger, filled with every new object but one -/
noncomputable def allNews (g h : Heap) (L : Addr) : List (Addr × Obj) := (List.range h.objs.size).filterMap fun a => if a = L ∨ (g.get? a).isSome = true then none else (h.get? a).map fun o => (a, o)
noncomputable def rest (g h : Heap) (L d : Addr) : List (Addr × Obj) := (allNews g h L).filter fun p => decide (p.1 ≠ d)
end L2

namespace L2
open PySem PySem.Spec PyProof.Rows

/-- the module's facts, over the base: the heap at the law's entry without what is tracked there -/
structure Mod (K : PySem.W.Frag) (mg : Str → Option Value) (base : Heap) : Prop where
  kin : K.In base
  glob : base.Ns mainGlobals mg
  blt : ∃ mb, base.Ns builtinsNs mb ∧ ∀ x : Str, x ≠ "__name__" → mb x = bootBuiltins x
  nolimit : base.NoLimit

/-- the context: a def's body (or a comprehension's block) running. base: fixed through the whole law; s₀, H₀: the entry; outer: the frames whose slots others may change (a def's callers); stack: all frames that run;
   ex: iterators that were made ahead of the entry and are walked here (a comprehension's); fn: the names whose cells were made at the entry (a def: all; a comprehension's block: its own); calm: not within an except suite; pn: pins that every state bears; xe: what is wanted of an exception that leaves the code -/
structure Cx where
  prog : Program
  w : World
  K : PySem.W.Frag
  mg : Str → Option Value
  base : Heap
  A : Around
  N : List Str
  s₀ : Shared
  H₀ : Hp
  env : Env
  outer : List Env
  stack : List Env
  ex : List Addr
  fn : Str → Bool
  calm : Bool
  pn : List (Addr × Obj)
  xe : Value → Shared → Prop
/-- the callers' frames -/
noncomputable def frs (l : List Env) : List Addr := l.filterMap (·.frame)
noncomputable abbrev Cx.fs (X : Cx) : List Addr := frs X.outer

noncomputable def Vis (sc : Scope) (x : Str) : Prop := sc.names.lookup x = some .local ∨ sc.names.lookup x = some .cell ∨ sc.names.lookup x = some .free
noncomputable def Loc (sc : Scope) (x : Str) : Prop := sc.names.lookup x = some .local ∨ sc.names.lookup x = some .cell
noncomputable def Look (env : Env) (h : Heap) (m : Str → Option Value) (x : Str) (u : Value) : Prop :=
  (env.kindOf x = some .local ∧ m x = some u) ∨ ((env.kindOf x = some .cell ∨ env.kindOf x = some .free) ∧ ∃ c, env.cells.lookup x = some c ∧ h.IsCell c (some u))

structure Cx.Ok (X : Cx) : Prop where
  mod : Mod X.K X.mg X.base
  kind : X.env.scope.kind = .function
  glob : X.env.globals = mainGlobals
  blt : X.env.builtins = builtinsNs
  above : X.s₀.heap.objs.size ≤ X.env.locals
  inj : ∀ x y c, X.env.cells.lookup x = some c → X.env.cells.lookup y = some c → x = y
  has : ∀ x, (X.env.kindOf x = some .cell ∨ X.env.kindOf x = some .free) → ∃ c, X.env.cells.lookup x = some c
  cab : ∀ x c, X.fn x = true → X.env.cells.lookup x = some c → X.s₀.heap.objs.size ≤ c
  hd : X.calm = true → X.A.handled = none
  frames : X.A.frames = some X.stack
  stk : X.stack = X.outer ∨ (X.stack = X.env :: X.outer ∧ X.env.frame = some X.env.locals)
  exf : ∀ b ∈ X.ex, b ≠ X.env.locals ∧ ∀ x c, X.env.cells.lookup x = some c → c ≠ b
  bs : ∀ b o, X.base.get? b = some o → X.s₀.heap.get? b = some o ∧ X.H₀ b = none
  bsz : X.base.objs.size ≤ X.s₀.heap.objs.size
  noex : ∀ b o, X.base.get? b = some o → b ∉ X.ex
  exfs : ∀ b ∈ X.ex, b ∉ X.fs
  funs : X.s₀.heap.FunFrames X.base X.outer
  frf : ∀ b ∈ X.fs, X.H₀ b = none

structure Inv (X : Cx) (pins : List (Addr × Obj)) (σ : List (Option V)) (H : Hp) (s : Shared) : Prop where
  ok : X.Ok
  os : s.os = X.s₀.os
  bare : AllBare s.gens
  base : Un X.fs X.ex X.H₀ H X.s₀.heap s.heap
  loc : ∃ m, s.heap.Ns X.env.locals m ∧ ∀ (i : Nat) (x : Str) (v : V), X.N[i]? = some x → σ[i]? = some (some v) → Vis X.env.scope x → ∃ u, RelV v u ∧ Look X.env s.heap m x u
  cell : ∀ x c, X.env.cells.lookup x = some c → ∃ v, s.heap.IsCell c v
  free : H X.env.locals = none
  freeC : ∀ x c, X.env.cells.lookup x = some c → H c = none
  pin : ∀ p ∈ X.pn ++ pins, s.heap.get? p.1 = some p.2 ∧ H p.1 = none ∧ p.1 ≠ X.env.locals ∧ p.1 ∉ X.fs ∧ ∀ v, p.2.data ≠ .cell v
  hok : HOk X.prog X.w H s.heap
  len : σ.length = X.N.length

section
variable {X : Cx} {pins : List (Addr × Obj)} {σ : List (Option V)} {H H' : Hp} {s : Shared} {h' : Heap}

theorem Cx.Ok.nofr (ok : X.Ok) {b : Addr} {o : Obj} (e : X.base.get? b = some o) : b ∉ X.fs := fun hb => by
  have := (ok.funs.mem hb).1
  rw [e] at this; cases this
theorem Inv.bs (I : Inv X pins σ H s) : ∀ b o, X.base.get? b = some o → s.heap.get? b = some o ∧ H b = none := fun b o e =>
  ⟨I.base.keep b o (I.ok.bs b o e).1 (I.ok.bs b o e).2 (I.ok.nofr e) (I.ok.noex b o e), I.base.free b o (I.ok.bs b o e).1 (I.ok.bs b o e).2 (I.ok.noex b o e)⟩
theorem Inv.bk (I : Inv X pins σ H s) : ∀ b o, X.base.get? b = some o → s.heap.get? b = some o := fun b o e => (I.bs b o e).1
theorem Inv.mod (I : Inv X pins σ H s) : Mod X.K X.mg X.base := I.ok.mod
theorem Inv.kIn (I : Inv X pins σ H s) : X.K.In s.heap := I.ok.mod.kin.keeps I.bk
theorem Inv.lt (I : Inv X pins σ H s) : X.env.locals < s.heap.objs.size := let ⟨_, hn, _⟩ := I.loc; hn.lt
theorem Inv.sz (I : Inv X pins σ H s) : X.s₀.heap.objs.size ≤ s.heap.objs.size := Nat.le_trans I.ok.above (Nat.le_of_lt I.lt)
theorem Inv.nofs (I : Inv X pins σ H s) {a : Addr} (h : s.heap.objs.size ≤ a) : a ∉ X.fs := fun hb => by
  obtain ⟨_, o, ho, _⟩ := I.ok.funs.mem hb
  exact absurd (Nat.lt_of_lt_of_le (Heap.lt_size ho) (Nat.le_trans I.sz h)) (Nat.lt_irrefl _)
theorem Inv.cne (I : Inv X pins σ H s) : ∀ x c, X.env.cells.lookup x = some c → c ≠ X.env.locals := fun x c e z => by
  obtain ⟨v, o, ho, hd⟩ := I.cell x c e
  obtain ⟨m, ⟨o', es, ep, ho', hd', _⟩, _⟩ := I.loc
  rw [z, ho'] at ho; cases ho; rw [hd'] at hd; cases hd
theorem Inv.funs (I : Inv X pins σ H s) : s.heap.FunFrames X.base X.outer := by
  have all : ∀ (l : List Env), (∀ b ∈ frs l, b ∈ X.fs) → X.s₀.heap.FunFrames X.base l → s.heap.FunFrames X.base l := by
    intro l
    induction l with
    | nil => intro _ _; trivial
    | cons env r ih =>
      intro hs hl
      obtain ⟨hk, ⟨L, o, hf, hn, ho, hd⟩, hr⟩ := hl
      have hL : L ∈ X.fs := hs L (by unfold frs; rw [List.filterMap_cons, hf]; exact List.mem_cons_self)
      obtain ⟨sl, e⟩ := I.base.slot L o ho (I.ok.frf L hL) hL fun z => I.ok.exfs L z hL
      exact ⟨hk, ⟨L, _, hf, hn, e, hd⟩, ih (fun b hb => hs b (by unfold frs; rw [List.filterMap_cons, hf]; exact List.mem_cons_of_mem _ hb)) hr⟩
  exact all X.outer (fun _ hb => hb) I.ok.funs

/-- the frames that run, for a call -/
theorem Inv.stack (I : Inv X pins σ H s) : s.heap.FunFrames X.base X.stack := by
  rcases I.ok.stk with e | ⟨e, hf⟩
  · rw [e]; exact I.funs
  · rw [e]
    obtain ⟨m, hn, _⟩ := I.loc
    refine .cons (by rw [I.ok.kind]; decide) hf hn ?_ I.funs
    exact Heap.get?_none_of_le (Nat.le_trans I.ok.bsz I.ok.above)
theorem Inv.stkSub (I : Inv X pins σ H s) : ∀ b ∈ frs X.stack, b ∈ X.env.locals :: X.fs := fun b hb => by
  rcases I.ok.stk with e | ⟨e, hf⟩
  · rw [e] at hb; exact List.mem_cons_of_mem _ hb
  · rw [e] at hb
    unfold frs at hb
    rw [List.filterMap_cons, hf] at hb
    exact hb
theorem Inv.stkFree (I : Inv X pins σ H s) : ∀ b ∈ frs X.stack, H b = none := fun b hb => by
  rcases List.mem_cons.mp (I.stkSub b hb) with e | hb
  · rw [e]; exact I.free
  · obtain ⟨_, o, ho, _⟩ := I.ok.funs.mem hb
    exact I.base.free b o ho (I.ok.frf b hb) fun z => I.ok.exfs b z hb

/-- THE STEP: the untracked objects but the frame and the records at ch are kept (the callers' frames up to slots), the frame's map is kept, the new abstract heap is held -/
theorem Inv.step {g' : Array GenState} {t' : Nat} {d' : Drawn} {ch : List Addr} (I : Inv X pins σ H s)
    (hch : ∀ b ∈ ch, (b ∈ X.ex ∨ X.s₀.heap.objs.size ≤ b) ∧ b ≠ X.env.locals ∧ (∀ x c, X.env.cells.lookup x = some c → c ≠ b) ∧ ∀ p ∈ X.pn ++ pins, p.1 ≠ b)
    (keep : ∀ b o, b ≠ X.env.locals → b ∉ X.fs → b ∉ ch → s.heap.get? b = some o → H b = none → h'.get? b = some o)
    (slot : ∀ b o, b ≠ X.env.locals → b ∈ X.fs → b ∉ ch → s.heap.get? b = some o → H b = none → ∃ sl, h'.get? b = some { o with slots := sl }) (free : ∀ b o, b ∉ ch → s.heap.get? b = some o → H b = none → H' b = none)
    (there : ∀ b o, b ∉ ch → s.heap.get? b = some o → ∃ o', h'.get? b = some o')
    (tups : ∀ b xs, H b = some (.tup xs) → H' b = some (.tup xs)) (frzs : ∀ b o u, H b = some (.frz o u) → H' b = some (.frz o u)) (tbls : ∀ b ps, H b = some (.tbl ps) → ∃ more, H' b = some (.tbl (ps ++ more)))
    (ns : ∀ m, s.heap.Ns X.env.locals m → h'.Ns X.env.locals m) (hok : HOk X.prog X.w H' h') (hg : AllBare g') :
    Inv X pins σ H' { s with heap := h', gens := g', drawn := d', toks := t' } := by
  have neL : ∀ b o, X.s₀.heap.get? b = some o → b ≠ X.env.locals := fun b o e => Nat.ne_of_lt (Nat.lt_of_lt_of_le (Heap.lt_size e) I.ok.above)
  have neC : ∀ b o, X.s₀.heap.get? b = some o → b ∉ X.ex → b ∉ ch := fun b o e hx hb => by
    rcases (hch b hb).1 with z | z
    · exact hx z
    · exact absurd (Nat.lt_of_lt_of_le (Heap.lt_size e) z) (Nat.lt_irrefl _)
  have cellK : ∀ x c, X.env.cells.lookup x = some c → ∀ v, s.heap.IsCell c v → h'.IsCell c v := fun x c e v ⟨o, ho, hd⟩ => by
    have nch : c ∉ ch := fun z => (hch c z).2.2.1 x c e rfl
    by_cases hc : c ∈ X.fs
    · obtain ⟨sl, q⟩ := slot c o (I.cne x c e) hc nch ho (I.freeC x c e)
      exact ⟨_, q, hd⟩
    · exact ⟨o, keep c o (I.cne x c e) hc nch ho (I.freeC x c e), hd⟩
  refine ⟨I.ok, I.os, hg, ⟨fun b o e n hb hx => ?_, fun b o e n hb hx => ?_, fun b o e n hx => ?_, fun b o e hx => ?_, fun b xs e => tups b xs (I.base.tups b xs e), fun b o xs e => frzs b o xs (I.base.frzs b o xs e), fun b ps e => ?_⟩, ?_, fun x c e => ?_, ?_, fun x c e => ?_, fun p hp => ?_, hok, I.len⟩
  · exact keep b o (neL b o e) hb (neC b o e hx) (I.base.keep b o e n hb hx) (I.base.free b o e n hx)
  · obtain ⟨sl, e1⟩ := I.base.slot b o e n hb hx
    obtain ⟨sl', e2⟩ := slot b _ (neL b o e) hb (neC b o e hx) e1 (I.base.free b o e n hx)
    exact ⟨sl', e2⟩
  · obtain ⟨o', e1⟩ := I.base.there b o e hx
    exact free b o' (neC b o e hx) e1 (I.base.free b o e n hx)
  · obtain ⟨o', e1⟩ := I.base.there b o e hx
    exact there b o' (neC b o e hx) e1
  · obtain ⟨m1, e1⟩ := I.base.tbls b ps e
    obtain ⟨m2, e2⟩ := tbls b _ e1
    exact ⟨m1 ++ m2, by rw [e2, Array.append_assoc]⟩
  · obtain ⟨m, hn, hl⟩ := I.loc
    refine ⟨m, ns m hn, fun i x v e1 e2 e3 => ?_⟩
    obtain ⟨u, r, l⟩ := hl i x v e1 e2 e3
    refine ⟨u, r, ?_⟩
    rcases l with l | ⟨k, c, e, z⟩
    · exact .inl l
    · exact .inr ⟨k, c, e, cellK x c e _ z⟩
  · obtain ⟨v, z⟩ := I.cell x c e
    exact ⟨v, cellK x c e v z⟩
  · obtain ⟨m, ⟨o, _, _, ho, _⟩, _⟩ := I.loc
    exact free _ o (fun z => (hch _ z).2.1 rfl) ho I.free
  · obtain ⟨v, o, ho, hd⟩ := I.cell x c e
    exact free c o (fun z => (hch c z).2.2.1 x c e rfl) ho (I.freeC x c e)
  · obtain ⟨e, n, ne, nf, d⟩ := I.pin p hp
    have nch : p.1 ∉ ch := fun z => (hch p.1 z).2.2.2 p hp rfl
    exact ⟨keep p.1 p.2 ne nf nch e n, free p.1 p.2 nch e n, ne, nf, d⟩
/-- .. where the frame's own object is kept too -/
theorem Inv.un {t' : Nat} (I : Inv X pins σ H s) (u : Un X.fs [] H H' s.heap h') (hok : HOk X.prog X.w H' h') : Inv X pins σ H' { s with heap := h', toks := t' } := by
  obtain ⟨m, ⟨o, es, ep, ho, r⟩, _⟩ := id I.loc
  obtain ⟨sl, hL⟩ := u.any ho I.free (by simp)
  exact I.step (g' := s.gens) (d' := s.drawn) (ch := []) (fun _ z => nomatch z) (fun b o _ hb _ e n => u.keep b o e n hb (by simp)) (fun b o _ hb _ e n => u.slot b o e n hb (by simp)) (fun b o _ e n => u.free b o e n (by simp)) (fun b o _ e => u.there b o e (by simp)) u.tups u.frzs u.tbls (fun m' hm => by
    obtain ⟨o', es', ep', ho', r'⟩ := hm
    rw [ho] at ho'; cases ho'
    exact ⟨_, es', ep', hL, r'⟩) hok I.bare
/-- behind a call (or a comprehension's block): the slots of this frame may have changed too, the records at ch may have turned -/
theorem Inv.call {g' : Array GenState} {t' : Nat} {d' : Drawn} {ch : List Addr} (I : Inv X pins σ H s) (u : Un (frs X.stack) ch H H' s.heap h') (hok : HOk X.prog X.w H' h') (hg : AllBare g')
    (hch : ∀ b ∈ ch, (b ∈ X.ex ∨ X.s₀.heap.objs.size ≤ b) ∧ b ≠ X.env.locals ∧ (∀ x c, X.env.cells.lookup x = some c → c ≠ b) ∧ ∀ p ∈ X.pn ++ pins, p.1 ≠ b) :
    Inv X pins σ H' { s with heap := h', gens := g', drawn := d', toks := t' } := by
  obtain ⟨m, ⟨o, es, ep, ho, r⟩, _⟩ := id I.loc
  obtain ⟨sl, hL⟩ := u.any ho I.free fun z => (hch _ z).2.1 rfl
  exact I.step (ch := ch) hch (fun b o hL hb hc e n => u.keep b o e n (fun z => (List.mem_cons.mp (I.stkSub b z)).elim hL hb) hc) (fun b o _ _ hc e n => u.any e n hc) (fun b o hc e n => u.free b o e n hc) (fun b o hc e => u.there b o e hc) u.tups u.frzs u.tbls (fun m' hm => by
    obtain ⟨o', es', ep', ho', r'⟩ := hm
    rw [ho] at ho'; cases ho'
    exact ⟨_, es', ep', hL, r'⟩) hok hg
/-- an untracked record of ours (an iterator) has turned -/
theorem Inv.turned {t' : Nat} {it : Addr} (I : Inv X pins σ H s) (k : ∀ b o, b ≠ it → s.heap.get? b = some o → h'.get? b = some o) (hn : H it = none) (hL : it ≠ X.env.locals)
    (h1 : it ∈ X.ex ∨ X.s₀.heap.objs.size ≤ it) (h2 : ∀ x c, X.env.cells.lookup x = some c → c ≠ it) (h3 : ∀ p ∈ X.pn ++ pins, p.1 ≠ it) : Inv X pins σ H { s with heap := h', toks := t' } := by
  have nit : ∀ b u, H b = some u → b ≠ it := fun b u e z => by rw [z, hn] at e; cases e
  refine I.step (g' := s.gens) (d' := s.drawn) (ch := [it]) (fun b hb => ?_) (fun b o _ _ hc e _ => k b o (fun z => hc (by simp [z])) e) (fun b o _ _ hc e _ => ⟨o.slots, k b o (fun z => hc (by simp [z])) e⟩) (fun _ _ _ _ n => n)
    (fun b o hc e => ⟨o, k b o (fun z => hc (by simp [z])) e⟩) (fun _ _ e => e) (fun _ _ _ e => e) (fun b ps e => ⟨#[], by rw [e]; simp⟩) (fun m hm => ?_) (fun b u e => ?_) I.bare
  · have e : b = it := by simpa using hb
    subst e
    exact ⟨h1, hL, h2, h3⟩
  · obtain ⟨o, es, ep, ho, r⟩ := hm
    exact ⟨o, es, ep, k _ o (Ne.symm hL) ho, r⟩
  · refine (I.hok b u e).stay (fun c v hc q => k c v ?_ q) (fun _ q => q) fun _ _ q => q
    rcases hc with z | z
    · rw [z]; exact nit b u e
    · exact nit c _ z
theorem Inv.tok (I : Inv X pins σ H s) (t : Nat) : Inv X pins σ H { s with toks := t } := I.un (h' := s.heap) (t' := t) Un.refl I.hok
/-- all objects kept -/
theorem Inv.kept {t' : Nat} (I : Inv X pins σ H s) (k : ∀ b u, s.heap.get? b = some u → h'.get? b = some u) : Inv X pins σ H { s with heap := h', toks := t' } := I.un (Un.kept k) (I.hok.kept k)
/-- a new object laid and tracked -/
theorem Inv.laid {a : Addr} {o : HO} {t' : Nat} (I : Inv X pins σ H s) (k : ∀ b u, s.heap.get? b = some u → h'.get? b = some u) (hp : s.heap.objs.size ≤ a) (new : ObjOk X.prog X.w (upd H a o) h' a o) :
    Inv X pins σ (upd H a o) { s with heap := h', toks := t' } := I.un (Un.laid k hp (I.hok.fresh hp)) (I.hok.laid k hp new)
/-- an object written -/
theorem Inv.write {x e : Addr} {o : HO} {t' : Nat} (I : Inv X pins σ H s) (mu : Mut (H x)) (he : e = x ∨ H e = some (.own x)) (k : ∀ b u, b ≠ e → s.heap.get? b = some u → h'.get? b = some u) (heo : ∃ u, h'.get? e = some u)
    (new : ObjOk X.prog X.w (upd H x o) h' x o) : Inv X pins σ (upd H x o) { s with heap := h', toks := t' } := I.un (Un.write mu he k heo) (I.hok.write mu he k heo new)
theorem Inv.pins_of {pins' : List (Addr × Obj)} (I : Inv X pins σ H s) (h : ∀ p ∈ pins', s.heap.get? p.1 = some p.2 ∧ H p.1 = none ∧ p.1 ≠ X.env.locals ∧ p.1 ∉ X.fs ∧ ∀ v, p.2.data ≠ .cell v) : Inv X pins' σ H s :=
  ⟨I.ok, I.os, I.bare, I.base, I.loc, I.cell, I.free, I.freeC, fun p hp => (List.mem_append.mp hp).elim (fun z => I.pin p (List.mem_append_left _ z)) (h p), I.hok, I.len⟩

theorem nodup_ix {N : List Str} (hN : N.Nodup) {i j : Nat} {x : Str} (a : N[i]? = some x) (b : N[j]? = some x) : i = j := by
  obtain ⟨h1, e1⟩ := List.getElem?_eq_some_iff.mp a
  obtain ⟨h2, e2⟩ := List.getElem?_eq_some_iff.mp b
  exact (List.getElem_inj hN).mp (e1.trans e2.symm)

/-- a name is stored; what changed -/
theorem store_ok2 {M : Model} {A : Around} {E : Value → Shared → Prop} {i : Nat} {x : Str} {v : V} {u : Value} {Q : Unit → Shared → Prop} (I : Inv X pins σ H s) (hN : X.N.Nodup) (hi : X.N[i]? = some x) (hx : Loc X.env.scope x) (r : RelV v u)
    (h : ∀ s', Inv X pins (σ.set i (some v)) H s' → (∃ a, Heap.SameBut a s.heap s'.heap ∧ (a = X.env.locals ∨ X.env.cells.lookup x = some a)) → Q () s') (hf : X.fn x = true ∨ X.env.scope.names.lookup x = some .local := by first | exact .inl rfl | exact .inr rfl | assumption) : wpAny M A (storeName X.env x u) Q E s := by
  obtain ⟨m, hn, hl⟩ := id I.loc
  have hcls : (X.env.scope.kind == .class || (X.env.scope.kind == .module && X.env.locals != X.env.globals)) = false := by rw [I.ok.kind]; rfl
  have hiσ : i < σ.length := by rw [I.len]; exact (List.getElem?_eq_some_iff.mp hi).1
  have cne := I.cne
  have tracked : ∀ {a : Addr} {h' : Heap}, (∃ o, s.heap.get? a = some o ∧ H a = none) → Heap.SameBut a s.heap h' → HOk X.prog X.w H h' := fun {a h'} ha hs b ob e => by
    obtain ⟨_, _, hfree⟩ := ha
    refine (I.hok b ob e).stay (fun c w' hc q => (hs.2 c ?_).trans q) (fun _ q => q) fun _ _ q => q
    rintro rfl
    rcases hc with rfl | hc
    · rw [hfree] at e; cases e
    · rw [hfree] at hc; cases hc
  rcases hx with hk | hk
  · refine wpAny_storeName_local hk hn (fun h' hn' hs => ?_) hcls
    obtain ⟨oL, _, _, hoL, _⟩ := id hn
    refine h _ ⟨I.ok, I.os, I.bare, ⟨fun b o e n hb hx => ?_, fun b o e n hb hx => ?_, I.base.free, fun b o e hx => ?_, I.base.tups, I.base.frzs, I.base.tbls⟩, ⟨_, hn', fun j y v' e1 e2 e3 => ?_⟩, fun y c e => ?_, I.free, I.freeC, fun p hp => ?_, tracked ⟨oL, hoL, I.free⟩ hs, by simpa using I.len⟩ ⟨_, hs, .inl rfl⟩
    · exact (hs.2 b (Nat.ne_of_lt (Nat.lt_of_lt_of_le (Heap.lt_size e) I.ok.above))).trans (I.base.keep b o e n hb hx)
    · obtain ⟨sl, e1⟩ := I.base.slot b o e n hb hx
      exact ⟨sl, (hs.2 b (Nat.ne_of_lt (Nat.lt_of_lt_of_le (Heap.lt_size e) I.ok.above))).trans e1⟩
    · obtain ⟨o', e1⟩ := I.base.there b o e hx
      exact ⟨o', (hs.2 b (Nat.ne_of_lt (Nat.lt_of_lt_of_le (Heap.lt_size e) I.ok.above))).trans e1⟩
    · by_cases hj : j = i
      · subst hj
        rw [hi] at e1; cases e1
        rw [List.getElem?_set_self hiσ] at e2
        cases e2
        exact ⟨u, r, .inl ⟨hk, by simp⟩⟩
      · rw [List.getElem?_set_ne (Ne.symm hj)] at e2
        obtain ⟨u', r', q⟩ := hl j y v' e1 e2 e3
        refine ⟨u', r', ?_⟩
        rcases q with ⟨k, e⟩ | ⟨k, c, e, z⟩
        · refine .inl ⟨k, ?_⟩
          have : y ≠ x := fun e => hj (nodup_ix hN e1 (e ▸ hi))
          simp [this, e]
        · exact .inr ⟨k, c, e, z.sameBut hs (cne y c e)⟩
    · obtain ⟨w', z⟩ := I.cell y c e
      exact ⟨w', z.sameBut hs (cne y c e)⟩
    · obtain ⟨e, n, ne, nf, d⟩ := I.pin p hp
      exact ⟨(hs.2 p.1 ne).trans e, n, ne, nf, d⟩
  · have hfn : X.fn x = true := by
      rcases hf with z | z
      · exact z
      · rw [z] at hk; cases hk
    obtain ⟨c, hc⟩ := I.ok.has x (.inl hk)
    obtain ⟨w', z⟩ := I.cell x c hc
    refine wpAny_storeName_cell I.ok.kind hk hc z (fun h' hc' hs => ?_)
    obtain ⟨oc, hoc, hocd⟩ := id z
    refine h { s with heap := h' } ⟨I.ok, I.os, I.bare, ⟨fun b o e n hb hx => ?_, fun b o e n hb hx => ?_, I.base.free, fun b o e hx => ?_, I.base.tups, I.base.frzs, I.base.tbls⟩, ⟨m, hn.sameBut hs (Ne.symm (cne x c hc)), fun j y v' e1 e2 e3 => ?_⟩, fun y c' e => ?_, I.free, I.freeC, fun p hp => ?_, tracked ⟨oc, hoc, I.freeC x c hc⟩ hs, by simpa using I.len⟩ ⟨c, hs, .inr hc⟩
    · exact (hs.2 b (Nat.ne_of_lt (Nat.lt_of_lt_of_le (Heap.lt_size e) (I.ok.cab x c hfn hc)))).trans (I.base.keep b o e n hb hx)
    · obtain ⟨sl, e1⟩ := I.base.slot b o e n hb hx
      exact ⟨sl, (hs.2 b (Nat.ne_of_lt (Nat.lt_of_lt_of_le (Heap.lt_size e) (I.ok.cab x c hfn hc)))).trans e1⟩
    · obtain ⟨o', e1⟩ := I.base.there b o e hx
      exact ⟨o', (hs.2 b (Nat.ne_of_lt (Nat.lt_of_lt_of_le (Heap.lt_size e) (I.ok.cab x c hfn hc)))).trans e1⟩
    · by_cases hj : j = i
      · subst hj
        rw [hi] at e1; cases e1
        rw [List.getElem?_set_self hiσ] at e2
        cases e2
        exact ⟨u, r, .inr ⟨.inl hk, c, hc, hc'⟩⟩
      · rw [List.getElem?_set_ne (Ne.symm hj)] at e2
        obtain ⟨u', r', q⟩ := hl j y v' e1 e2 e3
        refine ⟨u', r', ?_⟩
        rcases q with q | ⟨k, c', e, z'⟩
        · exact .inl q
        · refine .inr ⟨k, c', e, z'.sameBut hs ?_⟩
          rintro rfl
          exact hj (nodup_ix hN e1 (I.ok.inj _ _ _ e hc ▸ hi))
    · by_cases hcc : c' = c
      · subst hcc; exact ⟨_, hc'⟩
      · obtain ⟨w2, z2⟩ := I.cell y c' e
        exact ⟨w2, z2.sameBut hs hcc⟩
    · obtain ⟨e, n, ne, nf, d⟩ := I.pin p hp
      refine ⟨(hs.2 p.1 ?_).trans e, n, ne, nf, d⟩
      intro q
      rw [q, hoc] at e
      have q' : oc = p.2 := Option.some.inj e
      exact d w' (by rw [← q']; exact hocd)
theorem store_ok {M : Model} {A : Around} {E : Value → Shared → Prop} {i : Nat} {x : Str} {v : V} {u : Value} {Q : Unit → Shared → Prop} (I : Inv X pins σ H s) (hN : X.N.Nodup) (hi : X.N[i]? = some x) (hx : Loc X.env.scope x) (r : RelV v u)
    (h : ∀ s', Inv X pins (σ.set i (some v)) H s' → Q () s') (hf : X.fn x = true ∨ X.env.scope.names.lookup x = some .local := by first | exact .inl rfl | exact .inr rfl | assumption) : wpAny M A (storeName X.env x u) Q E s :=
  store_ok2 I hN hi hx r (fun s' I' _ => h s' I') hf
/-- behind a call or a block, the state as it is -/
theorem Inv.call' {s' : Shared} {ch : List Addr} (I : Inv X pins σ H s) (ho : s'.os = s.os) (u : Un (frs X.stack) ch H H' s.heap s'.heap) (hok : HOk X.prog X.w H' s'.heap) (hg : AllBare s'.gens)
    (hch : ∀ b ∈ ch, (b ∈ X.ex ∨ X.s₀.heap.objs.size ≤ b) ∧ b ≠ X.env.locals ∧ (∀ x c, X.env.cells.lookup x = some c → c ≠ b) ∧ ∀ p ∈ X.pn ++ pins, p.1 ≠ b) : Inv X pins σ H' s' := by
  obtain ⟨h', g', d', t', o'⟩ := s'
  have e : o' = s.os := ho
  subst e
  exact I.call (g' := g') (t' := t') (d' := d') u hok hg hch
end

/-! ### the judgements -/
/-- an exception: its class, its own dict's address (where it has one), the abstract heap behind it -/
noncomputable abbrev XK := Value → Option Addr → Hp → Prop
noncomputable abbrev St := List (Option V)
noncomputable abbrev VK := V → Hp → Prop
/-- an expression's reading; a test's; an argument list's -/
noncomputable abbrev TE := St → Hp → VK → Prop
noncomputable abbrev TT := St → Hp → (Bool → Hp → Prop) → Prop
noncomputable abbrev TA := St → Hp → (List V → Hp → Prop) → Prop
/-- what is wanted behind a statement -/
structure Ends where
  nx : St → Hp → Prop
  rt : VK
  bk : St → Hp → Prop := fun _ _ => False
  ct : St → Hp → Prop := fun _ _ => False
noncomputable abbrev TS := Ends → St → Hp → Prop

noncomputable def EP (X : Cx) (pins : List (Addr × Obj)) (σ : St) (Q : VK) (u : Value) (s' : Shared) : Prop := ∃ v H', Inv X pins σ H' s' ∧ RelV v u ∧ Q v H'
noncomputable def TP (X : Cx) (pins : List (Addr × Obj)) (σ : St) (Q : Bool → Hp → Prop) (b : Bool) (s' : Shared) : Prop := ∃ H', Inv X pins σ H' s' ∧ Q b H'
noncomputable def AP (X : Cx) (pins : List (Addr × Obj)) (σ : St) (Q : List V → Hp → Prop) (us : List Value) (s' : Shared) : Prop := ∃ vs H', Inv X pins σ H' s' ∧ Vals vs us ∧ Q vs H'
noncomputable def SP (X : Cx) (pins : List (Addr × Obj)) (D : Ends) (f : Flow) (s' : Shared) : Prop :=
  match f with
  | .next => ∃ σ' H', Inv X pins σ' H' s' ∧ D.nx σ' H'
  | .brk => ∃ σ' H', Inv X pins σ' H' s' ∧ D.bk σ' H'
  | .cont => ∃ σ' H', Inv X pins σ' H' s' ∧ D.ct σ' H'
  | .ret u => ∃ v σ' H', Inv X pins σ' H' s' ∧ RelV v u ∧ D.rt v H'

noncomputable def PE (X : Cx) (e : Expr) (t : TE) : Prop :=
  ∀ (pins : List (Addr × Obj)) (s : Shared) (σ : St) (H : Hp) (Q : VK), Inv X pins σ H s → t σ H Q → wpAny (model X.prog X.w) X.A (eval e X.env) (EP X pins σ Q) X.xe s
noncomputable def PT (X : Cx) (e : Expr) (t : TT) : Prop :=
  ∀ (pins : List (Addr × Obj)) (s : Shared) (σ : St) (H : Hp) (Q : Bool → Hp → Prop), Inv X pins σ H s → t σ H Q → wpAny (model X.prog X.w) X.A (isTrue e X.env (eval e X.env)) (TP X pins σ Q) X.xe s
/-- a test whatever its 'whole' is (and, or) -/
noncomputable def PW (X : Cx) (e : Expr) (t : TT) : Prop :=
  ∀ (whole : Sem Value) (pins : List (Addr × Obj)) (s : Shared) (σ : St) (H : Hp) (Q : Bool → Hp → Prop), Inv X pins σ H s → t σ H Q → wpAny (model X.prog X.w) X.A (isTrue e X.env whole) (TP X pins σ Q) X.xe s
theorem PW.pt {X : Cx} {e : Expr} {t : TT} (h : PW X e t) : PT X e t := h _
/-- an argument list (no star), from the left -/
noncomputable def PA (X : Cx) (es : List Expr) (t : TA) : Prop :=
  ∀ (pos : Pos) (pins : List (Addr × Obj)) (s : Shared) (σ : St) (H : Hp) (Q : List V → Hp → Prop), Inv X pins σ H s → t σ H Q → wpAny (model X.prog X.w) X.A (spliced (backTo pos (starEach es X.env))) (AP X pins σ Q) X.xe s
noncomputable def PS (X : Cx) (st : Stmt) (t : TS) : Prop :=
  ∀ (pins : List (Addr × Obj)) (s : Shared) (σ : St) (H : Hp) (D : Ends), Inv X pins σ H s → t D σ H → wpAny (model X.prog X.w) X.A (exec st X.env) (SP X pins D) X.xe s
noncomputable def PSs (X : Cx) (st : List Stmt) (t : TS) : Prop :=
  ∀ (pins : List (Addr × Obj)) (s : Shared) (σ : St) (H : Hp) (D : Ends), Inv X pins σ H s → t D σ H → wpAny (model X.prog X.w) X.A (execs st X.env) (SP X pins D) X.xe s
/-- weaken the end -/
theorem thn {α : Type} {t : Sem α} {Q Q' : α → Shared → Prop} {M : Model} {A : Around} {E : Value → Shared → Prop} {s : Shared} (h : wpAny M A t Q E s) (hQ : ∀ a s, Q a s → Q' a s) : wpAny M A t Q' E s := wpAny_mono h hQ fun _ _ x => x
end L2

namespace L2
open PySem PySem.Spec PyProof.Rows
section
variable {X : Cx}

/-! ### names and constants -/
noncomputable def tVar (i : Nat) : TE := fun σ H Q => ∃ v, σ[i]? = some (some v) ∧ Q v H
noncomputable def tC (v : V) : TE := fun _ H Q => Q v H
theorem pe_var {i : Nat} {x : Str} {pos : Pos} (hN : X.N[i]? = some x) (hv : Vis X.env.scope x) (hd : (x == ("__debug__" : Str)) = false := by decide) (hcd : (x == ("__classdict__" : Str)) = false := by decide) : PE X (.Name x pos) (tVar i) := by
  intro pins s σ H Q I h
  obtain ⟨v, e, h⟩ := h
  obtain ⟨m, hn, hl⟩ := I.loc
  obtain ⟨u, r, l⟩ := hl i x v hN e hv
  have fin : EP X pins σ Q u s := ⟨v, H, I, r, h⟩
  rcases l with ⟨hk, hm⟩ | ⟨hk, c, hc, hcell⟩
  · exact wpAny_Name (wpAny_loadName_local I.ok.kind hk hn hm fin) hd
  · rcases hk with hk | hk
    · exact wpAny_Name (wpAny_loadName_cell I.ok.kind hk hc hcell fin) hd
    · exact wpAny_Name (wpAny_loadName_free I.ok.kind hk hc hcell fin hcd) hd
theorem pe_int {i j pos} : PE X (.Constant (.int i) j pos) (tC (.int i)) := fun _ _ _ H _ I h => wpAny_Constant_int ⟨.int i, H, I.tok _, ⟨_, rfl⟩, h⟩
theorem pe_bl {b j pos} : PE X (.Constant (.bool b) j pos) (tC (.bl b)) := fun _ _ _ H _ I h => Constant_bool ⟨.bl b, H, I, rfl, h⟩
theorem pe_non {j pos} : PE X (.Constant .none j pos) (tC .non) := fun _ _ _ H _ I h => Constant_none ⟨.non, H, I, rfl, h⟩
theorem pe_str {x j pos} : PE X (.Constant (.str x) j pos) (tC (.str x)) := fun _ _ _ H _ I h => Calls.Constant_str ⟨.str x, H, I.tok _, ⟨_, rfl⟩, h⟩

/-- a global name of the def -/
noncomputable def Gl (X : Cx) (x : Str) : Prop := X.env.kindOf x = some .globalImplicit
theorem ld_glob {E : Value → Shared → Prop} {pins : List (Addr × Obj)} {s : Shared} {σ : St} {H : Hp} {x : Str} {u : Value} {pos : Pos} {Q : Value → Shared → Prop} (I : Inv X pins σ H s) (hg : Gl X x) (hm : X.mg x = some u) (h : Q u s)
    (hd : (x == ("__debug__" : Str)) = false := by decide) : wpAny (model X.prog X.w) X.A (eval (.Name x pos) X.env) Q E s :=
  Calls.Name_function_global I.ok.kind hg (Calls.loadGlobal_global (by rw [I.ok.glob]; exact I.mod.glob.keeps I.bk) hm h) hd
theorem ld_blt {E : Value → Shared → Prop} {pins : List (Addr × Obj)} {s : Shared} {σ : St} {H : Hp} {x : Str} {u : Value} {pos : Pos} {Q : Value → Shared → Prop} (I : Inv X pins σ H s) (hg : Gl X x) (hm : X.mg x = none) (hv : bootBuiltins x = some u) (h : Q u s)
    (hn : x ≠ "__name__" := by decide) (hd : (x == ("__debug__" : Str)) = false := by decide) : wpAny (model X.prog X.w) X.A (eval (.Name x pos) X.env) Q E s := by
  obtain ⟨mb, h1, h2⟩ := I.mod.blt
  exact Calls.Name_function_global I.ok.kind hg (Calls.loadGlobal_builtin (by rw [I.ok.glob]; exact I.mod.glob.keeps I.bk) hm (by rw [I.ok.blt]; exact h1.keeps I.bk) ((h2 x hn).trans hv) h) hd
/-- a module's constant, a class, a function, as a value -/
theorem pe_glob {x : Str} {v : V} {u : Value} {pos : Pos} (hg : Gl X x) (hm : X.mg x = some u) (r : RelV v u) (hd : (x == ("__debug__" : Str)) = false := by decide) : PE X (.Name x pos) (tC v) :=
  fun _ _ _ H _ I h => ld_glob I hg hm ⟨v, H, I, r, h⟩ hd
theorem pe_bltn {x : Str} {v : V} {u : Value} {pos : Pos} (hg : Gl X x) (hm : X.mg x = none) (hv : bootBuiltins x = some u) (r : RelV v u) (hn : x ≠ "__name__" := by decide) (hd : (x == ("__debug__" : Str)) = false := by decide) : PE X (.Name x pos) (tC v) :=
  fun _ _ _ H _ I h => ld_blt I hg hm hv ⟨v, H, I, r, h⟩ hn hd

/-! ### arithmetic -/
/-- two ints -/
noncomputable def t2I (ta tb : TE) (k : Int → Int → Hp → Prop) : St → Hp → Prop := fun σ H => ta σ H fun x H1 => tb σ H1 fun y H2 => ∃ i j, x = .int i ∧ y = .int j ∧ k i j H2
noncomputable def tAdd (ta tb : TE) : TE := fun σ H Q => t2I ta tb (fun i j H2 => Q (.int (i + j)) H2) σ H
noncomputable def tSub (ta tb : TE) : TE := fun σ H Q => t2I ta tb (fun i j H2 => Q (.int (i - j)) H2) σ H
/-- the left factor below 2^64 -/
noncomputable def tMul (ta tb : TE) : TE := fun σ H Q => t2I ta tb (fun i j H2 => (-(2 ^ 64) < i ∧ i < 2 ^ 64) ∧ Q (.int (i * j)) H2) σ H
variable {a b : Expr} {ta tb : TE} {pos : Pos}
/-! ### comparisons -/
noncomputable def PC (X : Cx) (op : CmpOp) (a b : Expr) (t : TE) : Prop :=
  ∀ (pins : List (Addr × Obj)) (s : Shared) (σ : St) (H : Hp) (Q : VK), Inv X pins σ H s → t σ H Q →
    wpAny (model X.prog X.w) X.A (eval a X.env) (fun v s₁ => wpAny (model X.prog X.w) X.A (eval b X.env) (fun u s₂ => wpAny (model X.prog X.w) X.A (compareOp op v u) (EP X pins σ Q) X.xe s₂) X.xe s₁) X.xe s
noncomputable def tCmp (p : Int → Int → Bool) (ta tb : TE) : TE := fun σ H Q => t2I ta tb (fun i j H2 => Q (.bl (p i j)) H2) σ H
noncomputable abbrev tLt : TE → TE → TE := tCmp fun i j => decide (i < j)
noncomputable abbrev tLe : TE → TE → TE := tCmp fun i j => decide (i ≤ j)
noncomputable abbrev tGt : TE → TE → TE := tCmp fun i j => decide (j < i)
noncomputable abbrev tGe : TE → TE → TE := tCmp fun i j => decide (j ≤ i)
noncomputable abbrev tEqI : TE → TE → TE := tCmp fun i j => decide (i = j)
noncomputable abbrev tNeI : TE → TE → TE := tCmp fun i j => !decide (i = j)
/-- is None -/
noncomputable def tIsN (ta : TE) : TE := fun σ H Q => ta σ H fun x H1 => Q (.bl (decide (x = .non))) H1
noncomputable def tNotN (ta : TE) : TE := fun σ H Q => ta σ H fun x H1 => Q (.bl (!decide (x = .non))) H1
/-- a comparison as a value, as a test -/
noncomputable def tB (t : TE) : TT := fun σ H Q => t σ H fun x H1 => ∃ c, x = .bl c ∧ Q c H1
/-- an expression whose value is a bool, as a test -/
theorem pt_val {e : Expr} {t : TE} (h : PE X e t) (he : ∀ whole, isTrue e X.env whole = (do let v ← whole; standAt e.pos; holding [v] (truthy v)) := by intro _; rfl) : PT X e (tB t) := by
  intro pins s σ H Q I hw
  refine isTrue_plain (thn (h pins s σ H _ I hw) fun v s1 hz1 => ?_) (he _)
  obtain ⟨x, H1, I1, r1, q1⟩ := hz1
  obtain ⟨d, rfl, q⟩ := q1
  cases r1
  exact wpAny_truthy_bool ⟨H1, I1, q⟩

/-! ### and, or, not -/
variable {tA tB' : TT} {rest : List Expr}
noncomputable def tAnd (t u : TT) : TT := fun σ H Q => t σ H fun c H1 => if c = true then u σ H1 Q else Q false H1
noncomputable def tOr (t u : TT) : TT := fun σ H Q => t σ H fun c H1 => if c = true then Q true H1 else u σ H1 Q
noncomputable def tNot (t : TT) : TT := fun σ H Q => t σ H fun c H1 => Q (!c) H1
theorem pw_and1 (ha : PT X a tA) : PW X (.BoolOp .And [a] pos) tA := by
  intro wh pins s σ H Q I h
  refine isTrue_and (thn (ha pins s σ H Q I h) fun c s1 e => ?_)
  cases c with
  | true => exact isTrue_and_nil e
  | false => exact e
theorem pw_or1 (ha : PT X a tA) : PW X (.BoolOp .Or [a] pos) tA := by
  intro wh pins s σ H Q I h
  refine isTrue_or (thn (ha pins s σ H Q I h) fun c s1 e => ?_)
  cases c with
  | false => exact isTrue_or_nil e
  | true => exact e
theorem pw_and (ha : PT X a tA) (hb : PW X (.BoolOp .And (b :: rest) pos) tB') : PW X (.BoolOp .And (a :: b :: rest) pos) (tAnd tA tB') := by
  intro wh pins s σ H Q I h
  refine isTrue_and (thn (ha pins s σ H _ I h) fun c s1 hz2 => ?_)
  obtain ⟨H1, I1, q1⟩ := hz2
  cases c with
  | true => exact hb wh pins s1 σ H1 Q I1 q1
  | false => exact ⟨H1, I1, q1⟩
theorem pw_or (ha : PT X a tA) (hb : PW X (.BoolOp .Or (b :: rest) pos) tB') : PW X (.BoolOp .Or (a :: b :: rest) pos) (tOr tA tB') := by
  intro wh pins s σ H Q I h
  refine isTrue_or (thn (ha pins s σ H _ I h) fun c s1 hz3 => ?_)
  obtain ⟨H1, I1, q1⟩ := hz3
  cases c with
  | true => exact ⟨H1, I1, q1⟩
  | false => exact hb wh pins s1 σ H1 Q I1 q1
theorem pt_not (ha : PT X a tA) : PT X (.UnaryOp .Not a pos) (tNot tA) := by
  intro pins s σ H Q I h
  exact isTrue_not (ha pins s σ H (fun c H1 => Q (!c) H1) I h)
/-- .. as values (bools) -/
noncomputable def tAndV (ta tb : TE) : TE := fun σ H Q => ta σ H fun x H1 => ∃ c, x = .bl c ∧ if c = true then tb σ H1 Q else Q (.bl false) H1
noncomputable def tOrV (ta tb : TE) : TE := fun σ H Q => ta σ H fun x H1 => ∃ c, x = .bl c ∧ if c = true then Q (.bl true) H1 else tb σ H1 Q
noncomputable def tNotV (ta : TE) : TE := fun σ H Q => ta σ H fun x H1 => ∃ c, x = .bl c ∧ Q (.bl (!c)) H1
theorem pe_one {op} {t : TE} (h : PE X a t) : PE X (.BoolOp op [a] pos) t := fun pins s σ H Q I hw => BoolOp_one (h pins s σ H Q I hw)
theorem pe_and (ha : PE X a ta) (hb : PE X (.BoolOp .And (b :: rest) pos) tb) : PE X (.BoolOp .And (a :: b :: rest) pos) (tAndV ta tb) := by
  intro pins s σ H Q I h
  refine BoolOp_and (thn (ha pins s σ H _ I h) fun v s1 hz4 => ?_)
  obtain ⟨x, H1, I1, r1, q1⟩ := hz4
  obtain ⟨c, rfl, q1⟩ := q1
  cases r1
  refine wpAny_truthy_bool ?_
  cases c with
  | true => exact hb pins s1 σ H1 Q I1 q1
  | false => exact ⟨.bl false, H1, I1, rfl, q1⟩
/-- a if t else b -/
noncomputable def tIf (t : TT) (ta tb : TE) : TE := fun σ H Q => t σ H fun c H1 => if c = true then ta σ H1 Q else tb σ H1 Q
end
end L2

namespace L2
open PySem PySem.Spec PyProof.Rows

/-! ### a list, a tuple that is read: tracked, frozen, or an object of the module -/
noncomputable def SqL (K : PySem.W.Frag) (H : Hp) (a : Addr) (xs : List V) : Prop :=
  Rd H a (.lst xs) ∨
    ∃ (o : Obj) (its : Array Value) (n : Nat), K.lookup a = some o ∧ o.cls = .type "list" ∧ o.dict = none ∧ o.data = .seq its n ∧ its.size ≤ sizeLine ∧ Vals xs its.toList
noncomputable def SqT (K : PySem.W.Frag) (H : Hp) (a : Addr) (xs : List V) : Prop :=
  Rd H a (.tup xs) ∨
    ∃ (o : Obj) (its : Array Value) (n : Nat), K.lookup a = some o ∧ o.cls = .type "tuple" ∧ o.data = .seq its n ∧ its.size ≤ sizeLine ∧ Vals xs its.toList
noncomputable def absV : Value → Option V
  | .none => some .non
  | .bool b => some (.bl b)
  | .int i _ => some (.int i)
  | .str x _ => some (.str x)
  | .bytes b _ => some (.byt b)
  | .float b _ => some (.flt b)
  | .ref a => some (.ref a)
  | .type n => some (.ty n)
  | _ => none
theorem RelV.abs {x : V} {u : Value} (r : RelV x u) : absV u = some x := by
  cases x with
  | non => cases r; rfl
  | bl _ => cases r; rfl
  | int _ => obtain ⟨t, rfl⟩ := r; rfl
  | str _ => obtain ⟨t, rfl⟩ := r; rfl
  | byt _ => obtain ⟨t, rfl⟩ := r; rfl
  | flt _ => obtain ⟨t, rfl⟩ := r; rfl
  | ref _ => cases r; rfl
  | ty _ => cases r; rfl
theorem RelV.inj {x y : V} {u : Value} (r : RelV x u) (q : RelV y u) : x = y := Option.some.inj (r.abs.symm.trans q.abs)
theorem Vals.inj : ∀ {xs ys : List V} {us : List Value}, Vals xs us → Vals ys us → xs = ys
  | _, _, _, .nil, .nil => rfl
  | _, _, _, .cons r t, .cons r' t' => by rw [r.inj r', Vals.inj t t']
section
variable {X : Cx} {pins : List (Addr × Obj)} {σ : St} {H : Hp} {s : Shared} {a : Addr} {xs ys : List V}
theorem SqL.of {K : PySem.W.Frag} (h : H a = some (.lst xs)) : SqL K H a xs := .inl (.inl h)
theorem SqT.of {K : PySem.W.Frag} (h : H a = some (.tup xs)) : SqT K H a xs := .inl (.inl h)
theorem Inv.list (I : Inv X pins σ H s) (h : SqL X.K H a xs) : ∃ its : List Value, Vals xs its ∧ PlainL s.heap a its.toArray ∧ xs.length ≤ sizeLine := by
  rcases h with h | ⟨o, its, n, hk, hc, hd, hs, hz, r⟩
  · obtain ⟨z, its, n, r, e⟩ := h.ok I.hok
    exact ⟨its, r, ⟨_, n, e, rfl, rfl, rfl⟩, z⟩
  · refine ⟨its.toList, r, ⟨o, n, I.kIn a o hk, hc, hd, by simpa using hs⟩, ?_⟩
    have e := r.length
    simp only [Array.length_toList] at e
    omega
theorem Inv.tuple (I : Inv X pins σ H s) (h : SqT X.K H a xs) : ∃ its : List Value, Vals xs its ∧ IsTup s.heap a its.toArray ∧ xs.length ≤ sizeLine := by
  rcases h with h | ⟨o, its, n, hk, hc, hs, hz, r⟩
  · obtain ⟨z, its, r, p⟩ := h.ok I.hok
    exact ⟨its, r, p, z⟩
  · refine ⟨its.toList, r, ⟨o, I.kIn a o hk, hc, n, by simpa using hs⟩, ?_⟩
    have e := r.length
    simp only [Array.length_toList] at e
    omega
theorem Inv.list_inj (I : Inv X pins σ H s) (h : SqL X.K H a xs) (h' : SqL X.K H a ys) : xs = ys := by
  obtain ⟨its, r, ⟨o, n, e, _, _, d⟩, _⟩ := I.list h
  obtain ⟨its', r', ⟨o', n', e', _, _, d'⟩, _⟩ := I.list h'
  rw [e] at e'; cases e'
  rw [d] at d'
  injection d' with d1 _
  have : its = its' := by simpa using congrArg Array.toList d1
  subst this
  exact r.inj r'
end

/-! ### another wish about exceptions -/
noncomputable abbrev Cx.wish (X : Cx) (E : Value → Shared → Prop) : Cx := { X with xe := E }
/-- no exception leaves -/
noncomputable abbrev Cx.nox (X : Cx) : Cx := X.wish fun _ _ => False
theorem Cx.Ok.wish {X : Cx} (ok : X.Ok) (E : Value → Shared → Prop) : (X.wish E).Ok :=
  ⟨ok.mod, ok.kind, ok.glob, ok.blt, ok.above, ok.inj, ok.has, ok.cab, ok.hd, ok.frames, ok.stk, ok.exf, ok.bs, ok.bsz, ok.noex, ok.exfs, ok.funs, ok.frf⟩
theorem Cx.Ok.unwish {X : Cx} {E : Value → Shared → Prop} (ok : (X.wish E).Ok) : X.Ok :=
  ⟨ok.mod, ok.kind, ok.glob, ok.blt, ok.above, ok.inj, ok.has, ok.cab, ok.hd, ok.frames, ok.stk, ok.exf, ok.bs, ok.bsz, ok.noex, ok.exfs, ok.funs, ok.frf⟩
section
variable {X : Cx} {pins : List (Addr × Obj)} {σ : St} {H : Hp} {s : Shared} {E : Value → Shared → Prop}
theorem Inv.wish (I : Inv X pins σ H s) (E : Value → Shared → Prop) : Inv (X.wish E) pins σ H s := ⟨I.ok.wish E, I.os, I.bare, I.base, I.loc, I.cell, I.free, I.freeC, I.pin, I.hok, I.len⟩
theorem Inv.unwish (I : Inv (X.wish E) pins σ H s) : Inv X pins σ H s := ⟨I.ok.unwish, I.os, I.bare, I.base, I.loc, I.cell, I.free, I.freeC, I.pin, I.hok, I.len⟩
theorem SP.unwish {D : Ends} {f : Flow} {s' : Shared} (h : SP (X.wish E) pins D f s') : SP X pins D f s' := by
  cases f with
  | next => obtain ⟨σ', H', I, q⟩ := h; exact ⟨σ', H', I.unwish, q⟩
  | brk => obtain ⟨σ', H', I, q⟩ := h; exact ⟨σ', H', I.unwish, q⟩
  | cont => obtain ⟨σ', H', I, q⟩ := h; exact ⟨σ', H', I.unwish, q⟩
  | ret u => obtain ⟨v, σ', H', I, r, q⟩ := h; exact ⟨v, σ', H', I.unwish, r, q⟩
theorem PSs.nox {st : List Stmt} {t : TS} (h : PSs X.nox st t) : PSs X st t := fun pins s σ H D I hw =>
  wpAny_mono (h pins s σ H D (I.wish _) hw) (fun _ _ q => q.unwish) fun _ _ z => False.elim z
end

/-! ### blocks and small statements -/
section
variable {X : Cx} {st : Stmt} {rest : List Stmt} {t u : TS} {e : Expr} {te : TE} {pos : Pos}
noncomputable def tNext : TS := fun D σ H => D.nx σ H
noncomputable def tSeq (t u : TS) : TS := fun D σ H => t { D with nx := u D } σ H
theorem pss_nil : PSs X [] tNext := fun _ _ σ H _ I h => wpAny_execs_nil ⟨σ, H, I, h⟩
theorem pss_cons (h1 : PS X st t) (h2 : PSs X rest u) : PSs X (st :: rest) (tSeq t u) := by
  intro pins s σ H D I h
  refine wpAny_execs_cons (thn (h1 pins s σ H { D with nx := u D } I h) fun f s1 q => ?_)
  cases f with
  | next =>
    obtain ⟨σ', H', I', q⟩ := q
    exact h2 pins s1 σ' H' D I' q
  | ret v => exact q
  | brk => exact q
  | cont => exact q
theorem pss_one (h1 : PS X st t) : PSs X [st] t := by
  intro pins s σ H D I h
  refine wpAny_execs_cons (thn (h1 pins s σ H D I h) fun f s1 q => ?_)
  cases f with
  | next => exact wpAny_execs_nil q
  | ret v => exact q
  | brk => exact q
  | cont => exact q
noncomputable def tBreak : TS := fun D σ H => D.bk σ H
noncomputable def tCont : TS := fun D σ H => D.ct σ H
/-- in a def's body nothing is shown -/
theorem Inv.quiet {pins : List (Addr × Obj)} {σ : St} {H : Hp} {s : Shared} (I : Inv X pins σ H s) : interactive X.env = false := by simp [interactive, I.ok.kind]
/-- an expression whose value is dropped -/
noncomputable def tDrop (te : TE) : TS := fun D σ H => te σ H fun _ H1 => D.nx σ H1
theorem ps_expr (he : PE X e te) (hs : swapsWith e none pos.line X.env = pure false := by rfl) : PS X (.Expr e pos) (tDrop te) := by
  intro pins s σ H D I h
  exact wpAny_Expr_any (thn (he pins s σ H _ I h) fun v s1 ⟨x, H1, I1, r1, q1⟩ => ⟨σ, H1, I1, q1⟩) I.quiet hs
noncomputable def tRet (te : TE) : TS := fun D σ H => te σ H D.rt
theorem ps_ret (he : PE X e te) : PS X (.Return (some e) pos) (tRet te) := by
  intro pins s σ H D I h
  exact wpAny_Return_some (thn (he pins s σ H _ I h) fun v s1 ⟨x, H1, I1, r1, q1⟩ => ⟨x, σ, H1, I1, r1, q1⟩)
noncomputable def tRetN : TS := fun D _ H => D.rt .non H
noncomputable def tIfS (c : TT) (t u : TS) : TS := fun D σ H => c σ H fun b H1 => if b = true then t D σ H1 else u D σ H1
theorem ps_if {c : Expr} {a b : List Stmt} {tc : TT} (hc : PT X c tc) (ha : PSs X a t) (hb : PSs X b u) : PS X (.If c a b pos) (tIfS tc t u) := by
  intro pins s σ H D I h
  refine wpAny_If (thn (hc pins s σ H _ I h) fun d s1 hz5 => ?_)
  obtain ⟨H1, I1, q1⟩ := hz5
  cases d with
  | true => exact ha pins s1 σ H1 D I1 q1
  | false => exact hb pins s1 σ H1 D I1 q1
/-- code that the proof never comes to -/
noncomputable def tNever : TS := fun _ _ _ => False
end

/-! ### targets -/
noncomputable abbrev TG := V → St → Hp → (St → Hp → Prop) → Prop
noncomputable abbrev TGs := List V → St → Hp → (St → Hp → Prop) → Prop
noncomputable def PG (X : Cx) (target : Expr) (t : TG) : Prop :=
  ∀ (pins : List (Addr × Obj)) (s : Shared) (σ : St) (H : Hp) (v : V) (u : Value) (Q : St → Hp → Prop), Inv X pins σ H s → RelV v u → t v σ H Q →
    wpAny (model X.prog X.w) X.A (assign target X.env u) (fun _ s' => ∃ σ' H', Inv X pins σ' H' s' ∧ Q σ' H') X.xe s
/-- several targets, one after another -/
noncomputable def PGs (X : Cx) (ts : List Expr) (t : TGs) : Prop :=
  ∀ (pins : List (Addr × Obj)) (s : Shared) (σ : St) (H : Hp) (vs : List V) (us : List Value) (Q : St → Hp → Prop), Inv X pins σ H s → Vals vs us → t vs σ H Q →
    wpAny (model X.prog X.w) X.A (assignInOrder ((assignEach ts X.env).map (·.2)) us) (fun _ s' => ∃ σ' H', Inv X pins σ' H' s' ∧ Q σ' H') X.xe s
/-- o[i] = v, by values -/
noncomputable abbrev TSet := V → V → V → Hp → (Hp → Prop) → Prop
noncomputable def PSet (X : Cx) (t : TSet) : Prop :=
  ∀ (pins : List (Addr × Obj)) (s : Shared) (σ : St) (H : Hp) (o i v : V) (ov iv u : Value) (Q : Hp → Prop), Inv X pins σ H s → RelV o ov → RelV i iv → RelV v u → t o i v H Q →
    wpAny (model X.prog X.w) X.A (setItem ov iv u) (fun _ s' => ∃ H', Inv X pins σ H' s' ∧ Q H') X.xe s
/-- a op= b, by values -/
noncomputable abbrev TIp := V → V → Hp → VK → Prop
noncomputable def PIp (X : Cx) (op : Operator) (t : TIp) : Prop :=
  ∀ (pins : List (Addr × Obj)) (s : Shared) (σ : St) (H : Hp) (x y : V) (v u : Value) (Q : VK), Inv X pins σ H s → RelV x v → RelV y u → t x y H Q →
    wpAny (model X.prog X.w) X.A (inplaceOp op v u) (EP X pins σ Q) X.xe s
section
variable {X : Cx} {pos : Pos}
noncomputable def gName (i : Nat) : TG := fun v σ H Q => Q (σ.set i (some v)) H
theorem pg_name {i : Nat} {x : Str} (hN : X.N.Nodup) (hi : X.N[i]? = some x) (hx : Loc X.env.scope x) (hf : X.fn x = true ∨ X.env.scope.names.lookup x = some .local := by first | exact .inl rfl | exact .inr rfl | assumption) : PG X (.Name x pos) (gName i) := by
  intro pins s σ H v u Q I r h
  exact wpAny_assign_Name (store_ok I hN hi hx r (fun s' I' => ⟨_, H, I', h⟩) hf)
noncomputable def gNil : TGs := fun vs σ H Q => vs = [] ∧ Q σ H
noncomputable def gCons (t : TG) (u : TGs) : TGs := fun vs σ H Q => ∃ v r, vs = v :: r ∧ t v σ H fun σ' H' => u r σ' H' Q
/-- (a, b, ..) = a tuple of that length -/
noncomputable def gTup (K : PySem.W.Frag) (n : Nat) (t : TGs) : TG := fun v σ H Q => ∃ a xs, v = .ref a ∧ SqT K H a xs ∧ xs.length = n ∧ t xs σ H Q
/-- o[i] = .. -/
noncomputable def gSub (to ti : TE) (t : TSet) : TG := fun v σ H Q => to σ H fun o H1 => ti σ H1 fun i H2 => t o i v H2 fun H3 => Q σ H3
theorem pg_sub {o i : Expr} {to ti : TE} {t : TSet} (ho : PE X o to) (hi : PE X i ti) (hs : PSet X t)
    (ha : ∀ v, assign (.Subscript o i pos) X.env v = (do
      let ov ← holding [v] (eval o X.env)
      let iv ← holding [v, ov] (eval i X.env)
      standAt pos
      holding [v, ov, iv] (setItem ov iv v)
      release [v, ov, iv] []) := by intro _; rfl) : PG X (.Subscript o i pos) (gSub to ti t) := by
  intro pins s σ H v u Q I r h
  rw [ha]
  refine wpAny_bind (wpAny_holding (thn (ho pins s σ H _ I h) fun ov s1 hz6 => ?_))
  obtain ⟨x, H1, I1, r1, q1⟩ := hz6
  refine wpAny_bind (wpAny_holding (thn (hi pins s1 σ H1 _ I1 q1) fun iv s2 hz7 => ?_))
  obtain ⟨y, H2, I2, r2, q2⟩ := hz7
  refine wpAny_bind (wpAny_standAt (wpAny_bind (wpAny_holding (thn (hs pins s2 σ H2 x y v ov iv u _ I2 r1 r2 r q2) fun _ s3 hz8 => ?_))))
  obtain ⟨H3, I3, q3⟩ := hz8
  exact wpAny_release ⟨σ, H3, I3, q3⟩
/-- target = value -/
noncomputable def tAsg (te : TE) (g : TG) : TS := fun D σ H => te σ H fun x H1 => g x σ H1 D.nx
theorem ps_asg {tg e : Expr} {te : TE} {g : TG} (he : PE X e te) (hg : PG X tg g) (hs : swapsWithSole [tg] e pos.line X.env = pure false := by rfl) (hw : swappedStores [tg] e X.env = pure none := by rfl)
    (h1 : (assignEach [tg] X.env).map (·.2) = [assign tg X.env] := by rfl) : PS X (.Assign [tg] e pos) (tAsg te g) := by
  intro pins s σ H D I h
  refine wpAny_Assign_stores (thn (he pins s σ H _ I h) fun v s1 hz9 => ?_) hs hw
  obtain ⟨x, H1, I1, r1, q1⟩ := hz9
  rw [h1]
  exact thn (hg pins s1 σ H1 x v _ I1 r1 q1) fun _ s2 q => q
/-- name = value -/
theorem ps_set {i : Nat} {x : Str} {e : Expr} {te : TE} {pos' : Pos} (hN : X.N.Nodup) (hi : X.N[i]? = some x) (hx : Loc X.env.scope x) (he : PE X e te) (hs : swapsWith e (some (.Name x pos')) pos.line X.env = pure false := by rfl) (hf : X.fn x = true ∨ X.env.scope.names.lookup x = some .local := by first | exact .inl rfl | exact .inr rfl | assumption) :
    PS X (.Assign [.Name x pos'] e pos) (tAsg te (gName i)) := by
  intro pins s σ H D I h
  refine wpAny_Assign_Name (thn (he pins s σ H _ I h) fun v s1 hz10 => ?_) hs
  obtain ⟨y, H1, I1, r1, q1⟩ := hz10
  exact store_ok I1 hN hi hx r1 (fun s2 I2 => ⟨_, H1, I2, q1⟩) hf
/-- a, b = x, y with plain local names: stored from the right; the pair itself is not tracked (the opening rows as in PyProof/Rows/TupAssign.lean:23) -/
noncomputable def tPar (i j : Nat) (ta : TA) : TS := fun D σ H => ta σ H fun vs H1 => ∃ v w, vs = [v, w] ∧ D.nx ((σ.set i (some v)).set j (some w)) H1
/-- name op= e -/
noncomputable def tAug (i : Nat) (te : TE) (ti : TIp) : TS := fun D σ H => ∃ x, σ[i]? = some (some x) ∧ te σ H fun y H1 => ti x y H1 fun z H2 => D.nx (σ.set i (some z)) H2
/-- o[i] op= e -/
noncomputable def tAugS (to ti te : TE) (tget : V → V → Hp → VK → Prop) (tip : TIp) (tset : TSet) : TS := fun D σ H => to σ H fun o H1 => ti σ H1 fun i H2 => tget o i H2 fun x H3 => te σ H3 fun y H4 => tip x y H4 fun z H5 => tset o i z H5 fun H6 => D.nx σ H6
/-- o[i], by values -/
noncomputable def PGet (X : Cx) (t : V → V → Hp → VK → Prop) : Prop :=
  ∀ (pins : List (Addr × Obj)) (s : Shared) (σ : St) (H : Hp) (o i : V) (ov iv : Value) (Q : VK), Inv X pins σ H s → RelV o ov → RelV i iv → t o i H Q →
    wpAny (model X.prog X.w) X.A (getItem ov iv) (EP X pins σ Q) X.xe s
/-- ints -/
noncomputable def ipI (f : Int → Int → Int) : TIp := fun x y H Q => ∃ i j, x = .int i ∧ y = .int j ∧ Q (.int (f i j)) H
end

/-! ### while -/
section
variable {X : Cx} {pos : Pos}
/-- the invariant W with its measure -/
noncomputable def tWhile (c : TT) (tb : TS) : TS := fun D σ H => ∃ W : Nat → St → Hp → Prop, (∃ m, W m σ H) ∧ ∀ m σ H, W m σ H →
  c σ H fun b H1 => if b = true then ∃ N : St → Hp → Prop, (∀ σ' H', N σ' H' → ∃ m', m' < m ∧ W m' σ' H') ∧ tb { D with nx := N, ct := N, bk := D.nx } σ H1 else D.nx σ H1
end

/-! ### what a loop or a comprehension walks -/
/-- at turn i: it yields x (the heap may grow), or it stops -/
structure It where
  go : Nat → Hp → Prop
  yld : Nat → Hp → V → Hp → Prop
  stop : Nat → Hp → Prop
/-- the iterator's own objects may turn: they are not the frame's, not pinned, younger than the entry (or a comprehension's own) -/
noncomputable def FpOk (X : Cx) (pins : List (Addr × Obj)) (H : Hp) (b : Addr) : Prop :=
  H b = none ∧ b ≠ X.env.locals ∧ b ∉ X.fs ∧ (b ∈ X.ex ∨ X.s₀.heap.objs.size ≤ b) ∧ (∀ x c, X.env.cells.lookup x = some c → c ≠ b) ∧ ∀ p ∈ X.pn ++ pins, p.1 ≠ b
theorem Inv.fpOk {X : Cx} {pins : List (Addr × Obj)} {σ : St} {H H' : Hp} {s : Shared} {b : Addr} (I : Inv X pins σ H s) (hb : s.heap.objs.size ≤ b) (hn : H' b = none) : FpOk X pins H' b := by
  refine ⟨hn, Nat.ne_of_gt (Nat.lt_of_lt_of_le I.lt hb), I.nofs hb, .inr (Nat.le_trans I.sz hb), fun x c e z => ?_, fun p hp z => ?_⟩
  · obtain ⟨v, q⟩ := I.cell x c e
    exact absurd (Nat.lt_of_lt_of_le q.lt (by rw [z]; exact hb)) (Nat.lt_irrefl _)
  · exact absurd (Nat.lt_of_lt_of_le (Heap.lt_size (I.pin p hp).1) (by rw [z]; exact hb)) (Nat.lt_irrefl _)
structure Turn (P : Program) (w : World) (K : PySem.W.Frag) (tg : Expr) (J : It) (fp : List Addr) (it : Addr) (tn : Nat → Heap → Prop) : Prop where
  mem : it ∈ fp
  obj : ∀ i h, tn i h → ∀ b ∈ fp, ∃ o, h.get? b = some o ∧ ∀ v, o.data ≠ .cell v
  keep : ∀ i h h', tn i h → (∀ b ∈ fp, ∀ o, h.get? b = some o → h'.get? b = some o) → tn i h'
  item : ∀ (X : Cx), X.prog = P → X.w = w → X.K = K → X.calm = true → ∀ (i : Nat) (pins : List (Addr × Obj)) (s : Shared) (σ : St) (H : Hp) (E : Value → Shared → Prop), Inv X pins σ H s → (∀ b ∈ fp, FpOk X pins H b) → tn i s.heap → J.go i H →
    wpAny (model P w) X.A (pyNext (.ref it)) (fun r s1 => ∃ u, r = some u ∧
      wpAny (model P w) X.A (letOwnedTupleGo tg (.ref it) u) (fun _ s2 => ∃ x H', Inv X pins σ H' s2 ∧ RelV x u ∧ J.yld i H x H' ∧ tn (i + 1) s2.heap ∧ ∀ b ∈ fp, H' b = none) E s1) E s
  done : ∀ (X : Cx), X.prog = P → X.w = w → X.K = K → X.calm = true → ∀ (i : Nat) (pins : List (Addr × Obj)) (s : Shared) (σ : St) (H : Hp) (E : Value → Shared → Prop), Inv X pins σ H s → (∀ b ∈ fp, FpOk X pins H b) → tn i s.heap → J.stop i H →
    wpAny (model P w) X.A (pyNext (.ref it)) (fun r s1 => r = none ∧ Inv X pins σ H s1) E s
  self : ∀ (A : Around) (i : Nat) (s : Shared) (Q : Value → Shared → Prop) (E : Value → Shared → Prop), tn i s.heap → Q (.ref it) s → wpAny (model P w) A (pyIter (.ref it)) Q E s
noncomputable abbrev TI := St → Hp → (It → Hp → Prop) → Prop
/-- an iterator has come -/
noncomputable def PIE (X : Cx) (pins : List (Addr × Obj)) (σ : St) (tg : Expr) (R : It → Hp → Prop) (itv : Value) (s2 : Shared) : Prop :=
  ∃ (it : Addr) (fp : List Addr) (tn : Nat → Heap → Prop) (J : It) (H' : Hp), itv = .ref it ∧ Inv X pins σ H' s2 ∧ Turn X.prog X.w X.K tg J fp it tn ∧ tn 0 s2.heap ∧ (∀ b ∈ fp, FpOk X pins H' b) ∧ R J H'
noncomputable def PI (X : Cx) (tg iter : Expr) (wi : TI) : Prop :=
  ∀ (pins : List (Addr × Obj)) (s : Shared) (σ : St) (H : Hp) (R : It → Hp → Prop), Inv X pins σ H s → wi σ H R →
    wpAny (model X.prog X.w) X.A (eval iter X.env) (fun v s1 => wpAny (model X.prog X.w) X.A (pyIter v) (PIE X pins σ tg R) X.xe s1) X.xe s

/-- the step ahead of the store is nothing for an iterator that keeps no tuple -/
theorem go_of {M : Model} {A : Around} {E : Value → Shared → Prop} {s : Shared} {tg : Expr} {it : Addr} {u : Value} {o : Obj} {n : String} {vs : Array Value} {Q : Unit → Shared → Prop} (ho : s.heap.get? it = some o) (hc : o.cls = .type n) (hd : o.data = .fields vs)
    (hn : ["enumerate", "zip", "dict_itemiterator", "dict_reverseitemiterator", "odict_iterator", "itertools.zip_longest", "itertools.pairwise"].contains n = false) (hQ : Q () s) : wpAny M A (letOwnedTupleGo tg (.ref it) u) Q E s := by
  unfold letOwnedTupleGo
  cases tg <;> first
    | exact wpAny_pure hQ
    | (cases u <;> first
        | exact wpAny_pure hQ
        | (refine wpAny_bind (wpAny_load ho ?_)
           rw [hc, hd]
           show wpAny M A (if (["enumerate", "zip", "dict_itemiterator", "dict_reverseitemiterator", "odict_iterator", "itertools.zip_longest", "itertools.pairwise"].contains n && vs[0]? == some (rawInt _)) = true then _ else _) Q E s
           rw [if_neg (by intro h; rw [hn, Bool.false_and] at h; cases h)]
           exact wpAny_pure hQ))

/-- the list at a, as it stands at each turn (a loop may append to it) -/
noncomputable def Itl (K : PySem.W.Frag) (a : Addr) : It :=
  ⟨fun i H => ∃ xs x, SqL K H a xs ∧ xs[i]? = some x, fun i H x H' => H' = H ∧ ∀ xs, SqL K H a xs → xs[i]? = some x, fun i H => ∃ xs, SqL K H a xs ∧ xs.length ≤ i⟩
noncomputable def Itt (K : PySem.W.Frag) (a : Addr) : It :=
  ⟨fun i H => ∃ xs x, SqT K H a xs ∧ xs[i]? = some x, fun i H x H' => H' = H ∧ ∀ xs, SqT K H a xs → xs[i]? = some x, fun i H => ∃ xs, SqT K H a xs ∧ xs.length ≤ i⟩
/-- lo, lo + 1, .. (n of them) -/
noncomputable def Itr (lo : Int) (n : Nat) : It := ⟨fun i _ => i < n, fun i H x H' => H' = H ∧ x = .int (lo + i), fun i _ => n ≤ i⟩
theorem turn_list {P : Program} {w : World} {K : PySem.W.Frag} {tg : Expr} (a it : Addr) : Turn P w K tg (Itl K a) [it] it (fun i h => h.IsListIter it a i) where
  mem := by simp
  obj := fun i h st b hb => by
    have e : b = it := by simpa using hb
    subst e
    obtain ⟨o, e, c, d⟩ := st
    exact ⟨o, e, fun v z => by rw [d] at z; cases z⟩
  keep := fun i h h' st k => st.at fun o e => k it (by simp) o e
  item := by
    intro X hP hw hK hc i pins s σ H E I hf st hg
    subst hP hw hK
    obtain ⟨xs, x, hq, hx⟩ := hg
    obtain ⟨its, rv, p, hz⟩ := I.list hq
    obtain ⟨u, hu, ru⟩ := rv.get hx
    obtain ⟨f0, f1, f2, f3, f4, f5⟩ := hf it (by simp)
    refine wpAny_pyNext_list_item st p.isList (x := u) (by simpa using hu) fun h' st' sb => ?_
    have I1 : Inv X pins σ H { s with heap := h' } := I.turned (t' := s.toks) (fun b o hb e => (sb.2 b hb).trans e) f0 f1 f3 f4 f5
    obtain ⟨o, e, c, d⟩ := id st'
    exact ⟨u, rfl, go_of (s := { s with heap := h' }) e c d (by decide) ⟨x, H, I1, ru, ⟨rfl, fun ys hy => by rw [I.list_inj hy hq]; exact hx⟩, st', fun b hb => (hf b hb).1⟩⟩
  done := by
    intro X hP hw hK hc i pins s σ H E I hf st hg
    subst hP hw hK
    obtain ⟨xs, hq, hx⟩ := hg
    obtain ⟨its, rv, p, hz⟩ := I.list hq
    obtain ⟨f0, f1, f2, f3, f4, f5⟩ := hf it (by simp)
    have hl := rv.length
    exact wpAny_pyNext_list_end (I.ok.hd hc) st p.isList (by simp; omega) fun h' eb => ⟨rfl, I.turned (t' := s.toks) (fun b o hb e => eb b o hb e) f0 f1 f3 f4 f5⟩
  self := fun _ _ _ _ _ st h => wpAny_pyIter_listiter st h
theorem turn_range {P : Program} {w : World} {K : PySem.W.Frag} {tg : Expr} (it : Addr) (lo : Int) (n : Nat) : Turn P w K tg (Itr lo n) [it] it (fun i h => IsRangeIter h it (lo + (i : Nat) * 1) ((n : Int) - (i : Nat)) 1) where
  mem := by simp
  obj := fun i h st b hb => by
    have e : b = it := by simpa using hb
    subst e
    exact ⟨_, st, fun v z => by
      have z' : Data.fields _ = Data.cell v := z
      cases z'⟩
  keep := fun i h h' st k => k it (by simp) _ st
  item := by
    intro X hP hw hK hc i pins s σ H E I hf st hg
    subst hP hw hK
    obtain ⟨f0, f1, f2, f3, f4, f5⟩ := hf it (by simp)
    have W := Walks.range (prog := X.prog) (w := X.w) (I.ok.hd hc) it lo 1 n
    refine W.item i s _ _ hg st fun v h' tk hv st' kk => ?_
    obtain ⟨t, rfl⟩ := hv
    have I1 : Inv X pins σ H { s with heap := h', toks := tk } := I.turned (fun b o hb e => kk b o (by simpa using hb) e) f0 f1 f3 f4 f5
    refine ⟨_, rfl, go_of (s := { s with heap := h', toks := tk }) (n := "range_iterator") st' rfl rfl (by decide) ⟨.int (lo + i), H, I1, ⟨t, ?_⟩, ⟨rfl, rfl⟩, st', fun b hb => (hf b hb).1⟩⟩
    rw [Int.mul_one]
  done := by
    intro X hP hw hK hc i pins s σ H E I hf st hg
    subst hP hw hK
    obtain ⟨f0, f1, f2, f3, f4, f5⟩ := hf it (by simp)
    exact wpAny_pyNext_range_end (I.ok.hd hc) st (by have : n ≤ i := hg; omega) fun h' eb => ⟨rfl, I.turned (t' := s.toks) (fun b o hb e => eb b o hb e) f0 f1 f3 f4 f5⟩
  self := fun _ _ _ _ _ st h => wpAny_pyIter_rangeiter st h
end L2

namespace L2
open PySem PySem.Spec PyProof.Rows
section
variable {X : Cx} {tg : Expr}
noncomputable def iList (K : PySem.W.Frag) (tl : TE) : TI := fun σ H R => tl σ H fun x H1 => ∃ a, x = .ref a ∧ (∃ xs, SqL K H1 a xs) ∧ R (Itl K a) H1
noncomputable def iTup (K : PySem.W.Frag) (tl : TE) : TI := fun σ H R => tl σ H fun x H1 => ∃ a, x = .ref a ∧ (∃ xs, SqT K H1 a xs) ∧ R (Itt K a) H1
theorem pi_list {l : Expr} {tl : TE} (hl : PE X l tl) : PI X tg l (iList X.K tl) := by
  intro pins s σ H R I h
  refine thn (hl pins s σ H _ I h) fun v s1 hz11 => ?_
  obtain ⟨x, H1, I1, r1, q1⟩ := hz11
  obtain ⟨a, e, ⟨xs, hq⟩, q⟩ := q1
  subst e
  cases r1
  obtain ⟨its, rv, p, hz⟩ := I1.list hq
  refine wpAny_pyIter_list p.isList ?_
  refine ⟨s1.heap.objs.size, [s1.heap.objs.size], _, _, H1, rfl, I1.kept (t' := s1.toks) fun b o e => Heap.get?_push_of_some _ e, turn_list a _, ⟨_, Heap.get?_push_size _ rfl, rfl, rfl⟩, fun b hb => ?_, q⟩
  have e : b = s1.heap.objs.size := by simpa using hb
  subst e
  exact I1.fpOk (Nat.le_refl _) (I1.hok.fresh (Nat.le_refl _))
/-- a range object just made, walked -/
theorem range_it {pins : List (Addr × Obj)} {σ : St} {H : Hp} {s : Shared} {R : It → Hp → Prop} {E : Value → Shared → Prop} {lo hi : Int} {t u v : Tok} {tk : Nat} (I : Inv X pins σ H s) (h1 : -(2 ^ 62) ≤ lo) (h2 : lo < 2 ^ 62) (h3 : -(2 ^ 62) ≤ hi) (h4 : hi < 2 ^ 62)
    (q : R (Itr lo (hi - lo).toNat) H) : wpAny (model X.prog X.w) X.A (pyIter (.ref s.heap.objs.size)) (PIE X pins σ tg R) E { s with heap := s.heap.push { cls := .type "range", data := .fields #[.int lo t, .int hi u, .int 1 v] }, toks := tk } := by
  refine wpAny_pyIter_range (IsRange.new ..) (small_one h1 h2 h3 h4) ?_
  have I1 : Inv X pins σ H { s with heap := s.heap.push { cls := .type "range", data := .fields #[.int lo t, .int hi u, .int 1 v] }, toks := tk } := I.kept fun b o e => Heap.get?_push_of_some _ e
  refine ⟨(s.heap.push { cls := .type "range", data := .fields #[.int lo t, .int hi u, .int 1 v] }).objs.size, [(s.heap.push { cls := .type "range", data := .fields #[.int lo t, .int hi u, .int 1 v] }).objs.size], _, _, H, rfl,
    I1.kept (t' := tk) fun b o e => Heap.get?_push_of_some _ e, turn_range _ lo (hi - lo).toNat, ?_, fun b hb => ?_, q⟩
  · have e1 : lo + ((0 : Nat) : Int) * 1 = lo := by simp
    have e2 : (((hi - lo).toNat : Nat) : Int) - ((0 : Nat) : Int) = Builtin.Range.rangeSize lo hi 1 := by rw [rangeSize_one]; split <;> omega
    show IsRangeIter _ _ (lo + ((0 : Nat) : Int) * 1) ((((hi - lo).toNat : Nat) : Int) - ((0 : Nat) : Int)) 1
    rw [e1, e2]
    exact Heap.get?_push_size _ rfl
  · have e : b = (s.heap.push { cls := .type "range", data := .fields #[.int lo t, .int hi u, .int 1 v] }).objs.size := by simpa using hb
    subst e
    exact I1.fpOk (Nat.le_refl _) (I1.hok.fresh (Nat.le_refl _))
noncomputable def iRng1 (ta : TA) : TI := fun σ H R => ta σ H fun vs H1 => ∃ j : Int, vs = [.int j] ∧ -(2 ^ 62) ≤ j ∧ j < 2 ^ 62 ∧ R (Itr 0 j.toNat) H1
noncomputable def iRng2 (ta : TA) : TI := fun σ H R => ta σ H fun vs H1 => ∃ i j : Int, vs = [.int i, .int j] ∧ (-(2 ^ 62) ≤ i ∧ i < 2 ^ 62 ∧ -(2 ^ 62) ≤ j ∧ j < 2 ^ 62) ∧ R (Itr i (j - i).toNat) H1
theorem pi_range1 {a : Expr} {ta : TA} {p pos : Pos} (hg : Gl X "range") (hm : X.mg "range" = none) (ha : PA X [a] ta) (hs : starEach [a] X.env = [(false, eval a X.env)] := by rfl) : PI X tg (.Call (.Name "range" p) [a] [] pos) (iRng1 ta) := by
  intro pins s σ H R I h
  refine Call_ (ld_blt I hg hm boot_range (PyProof.Rows.callWith_type1 (thn (ha pos pins s σ H _ I h) fun us s1 hz12 => ?_) hs rfl))
  obtain ⟨vs, H1, I1, r1, q1⟩ := hz12
  obtain ⟨j, e, q1, q2, q⟩ := q1
  subst e
  cases r1 with
  | cons r rr =>
    cases rr
    obtain ⟨t, rfl⟩ := r
    exact call_range_1 (range_it I1 (by omega) (by omega) q1 q2 (by simpa using q))
/-! ### for -/
/-- W: the invariant by the turn and a measure; N: what the body is to reach -/
noncomputable def tFor (wi : TI) (g : TG) (tb : TS) : TS := fun D σ H => wi σ H fun J H1 => ∃ W : Nat → Nat → St → Hp → Prop, (∃ m, W 0 m σ H1) ∧ ∀ i m σ H, W i m σ H →
  (J.stop i H ∧ D.nx σ H) ∨ (J.go i H ∧ ∃ N : St → Hp → Prop, (∀ σ' H', N σ' H' → ∃ m', m' < m ∧ W (i + 1) m' σ' H') ∧ ∀ x H', J.yld i H x H' → g x σ H' fun σ2 H2 => tb { D with nx := N, ct := N, bk := D.nx } σ2 H2)
/-- the records at fp as they stand -/
noncomputable def pinsAt (fp : List Addr) (h : Heap) : List (Addr × Obj) := fp.filterMap fun b => (h.get? b).map fun o => (b, o)
theorem mem_pinsAt {fp : List Addr} {h : Heap} {b : Addr} {o : Obj} (hb : b ∈ fp) (e : h.get? b = some o) : (b, o) ∈ pinsAt fp h := List.mem_filterMap.mpr ⟨b, hb, by rw [e]; rfl⟩
theorem of_pinsAt {fp : List Addr} {h : Heap} {p : Addr × Obj} (hp : p ∈ pinsAt fp h) : p.1 ∈ fp ∧ h.get? p.1 = some p.2 := by
  obtain ⟨b, hb, e⟩ := List.mem_filterMap.mp hp
  cases q : h.get? b with
  | none => rw [q] at e; cases e
  | some o =>
    rw [q] at e
    have e' : (b, o) = p := Option.some.inj e
    subst e'
    exact ⟨hb, q⟩
theorem Inv.pinned {pins : List (Addr × Obj)} {σ : St} {H : Hp} {s : Shared} {fp : List Addr} (I : Inv X pins σ H s) (hf : ∀ b ∈ fp, FpOk X pins H b) (ho : ∀ b ∈ fp, ∃ o, s.heap.get? b = some o ∧ ∀ v, o.data ≠ .cell v) : Inv X (pins ++ pinsAt fp s.heap) σ H s :=
  I.pins_of fun p hp => (List.mem_append.mp hp).elim (fun z => I.pin p (List.mem_append_right _ z)) fun z => by
    obtain ⟨hb, e⟩ := of_pinsAt z
    obtain ⟨f0, f1, f2, _⟩ := hf p.1 hb
    obtain ⟨o, e', d⟩ := ho p.1 hb
    rw [e] at e'; cases e'
    exact ⟨e, f0, f1, f2, d⟩
theorem Inv.unpinned {pins pl : List (Addr × Obj)} {σ : St} {H : Hp} {s : Shared} (I : Inv X (pins ++ pl) σ H s) : Inv X pins σ H s := I.pins_of fun p hp => I.pin p (List.mem_append_right _ (List.mem_append_left _ hp))
theorem ps_for {iter : Expr} {body : List Stmt} {wi : TI} {g : TG} {tb : TS} {pos : Pos} (hp : PassesOwn (model X.prog X.w) X.A X.env X.xe) (hc : X.calm = true) (hi : PI X tg iter wi) (hg : PG X tg g) (hb : PSs X body tb)
    (hs : ∀ x, foldedSetIterable iter X.env x = pure x := by intro _; rfl) : PS X (.For tg iter body [] pos) (tFor wi g tb) := by
  intro pins s σ H D I h
  refine wpAny_For (thn (hi pins s σ H _ I h) fun v s1 h1 => thn h1 fun itv s2 h2 => ?_) hs
  obtain ⟨it, fp, tn, J, H2, e, I2, T, st2, f2, W, ⟨m0, w0⟩, turn⟩ := h2
  subst e
  -- what stays true of the iterator's objects through the loop
  have stat : ∀ {H' : Hp}, (∀ b ∈ fp, H' b = none) → ∀ b ∈ fp, FpOk X pins H' b := fun hn b hb => ⟨hn b hb, (f2 b hb).2⟩
  refine codeAny_forLoop_any (fun n s' => ∃ i σ' H', Inv X pins σ' H' s' ∧ tn i s'.heap ∧ (∀ b ∈ fp, H' b = none) ∧ W i n σ' H') ?_ m0 ⟨0, σ, H2, I2, st2, fun b hb => (f2 b hb).1, w0⟩
  rintro n s3 ⟨i, σ3, H3, I3, st3, fr3, w3⟩
  rcases turn i n σ3 H3 w3 with ⟨stop, qn⟩ | ⟨go, N, hN, step⟩
  · refine wpAny_passesOwn hp (thn (T.done X rfl rfl rfl hc i pins s3 σ3 H3 X.xe I3 (stat fr3) st3 stop) fun r s4 ⟨hr, I4⟩ => ?_)
    subst hr
    exact wpAny_execs_nil ⟨σ3, H3, I4, qn⟩
  · refine wpAny_passesOwn hp (thn (T.item X rfl rfl rfl hc i pins s3 σ3 H3 X.xe I3 (stat fr3) st3 go) fun r s4 ⟨u, hr, h4⟩ => ?_)
    subst hr
    refine wpAny_passesOwn hp (thn h4 fun _ s5 hz13 => ?_)
    obtain ⟨x, H5, I5, r5, y5, st5, fr5⟩ := hz13
    have I5' := I5.pinned (stat fr5) (T.obj _ _ st5)
    refine wpAny_passesOwn hp (thn (hg _ s5 σ3 H5 x u _ I5' r5 (step x H5 y5)) fun _ s6 hz14 => ?_)
    obtain ⟨σ6, H6, I6, q6⟩ := hz14
    refine wpAny_passesOwn hp (thn (hb _ s6 σ6 H6 _ I6 q6) fun f s7 q7 => ?_)
    have again : ∀ {σ7 : St} {H7 : Hp}, Inv X (pins ++ pinsAt fp s5.heap) σ7 H7 s7 → N σ7 H7 → ∃ m, m < n ∧ ∃ i σ' H', Inv X pins σ' H' s7 ∧ tn i s7.heap ∧ (∀ b ∈ fp, H' b = none) ∧ W i m σ' H' := fun {σ7 H7} I7 n7 => by
      obtain ⟨m', hm, w7⟩ := hN σ7 H7 n7
      refine ⟨m', hm, i + 1, σ7, H7, I7.unpinned, T.keep _ _ _ st5 fun b hb o e => (I7.pin (b, o) (List.mem_append_right _ (List.mem_append_right _ (mem_pinsAt hb e)))).1, fun b hb => ?_, w7⟩
      obtain ⟨o, e, d⟩ := T.obj _ _ st5 b hb
      exact (I7.pin (b, o) (List.mem_append_right _ (List.mem_append_right _ (mem_pinsAt hb e)))).2.1
    cases f with
    | next => obtain ⟨σ7, H7, I7, n7⟩ := q7; exact again I7 n7
    | cont => obtain ⟨σ7, H7, I7, n7⟩ := q7; exact again I7 n7
    | brk => obtain ⟨σ7, H7, I7, q7⟩ := q7; exact ⟨σ7, H7, I7.unpinned, q7⟩
    | ret v => obtain ⟨x7, σ7, H7, I7, r7, q7⟩ := q7; exact ⟨x7, σ7, H7, I7.unpinned, r7, q7⟩
end

/-! ### the forms one uses -/
/-- over a list that the body leaves as it is -/
theorem for_list {K : PySem.W.Frag} {a : Addr} {xs : List V} {g : TG} {tb : TS} {D : Ends} {σ : St} {H : Hp} (Pv : Nat → St → Hp → Prop) (h0 : Pv 0 σ H) (hl : ∀ i σ H, i ≤ xs.length → Pv i σ H → SqL K H a xs)
    (hs : ∀ i x σ H, xs[i]? = some x → Pv i σ H → g x σ H fun σ2 H2 => tb { D with nx := Pv (i + 1), ct := Pv (i + 1), bk := D.nx } σ2 H2) (hd : ∀ σ H, Pv xs.length σ H → D.nx σ H) :
    ∃ W : Nat → Nat → St → Hp → Prop, (∃ m, W 0 m σ H) ∧ ∀ i m σ H, W i m σ H →
      ((Itl K a).stop i H ∧ D.nx σ H) ∨ ((Itl K a).go i H ∧ ∃ N : St → Hp → Prop, (∀ σ' H', N σ' H' → ∃ m', m' < m ∧ W (i + 1) m' σ' H') ∧ ∀ x H', (Itl K a).yld i H x H' → g x σ H' fun σ2 H2 => tb { D with nx := N, ct := N, bk := D.nx } σ2 H2) := by
  refine ⟨fun i m σ H => m = xs.length - i ∧ i ≤ xs.length ∧ Pv i σ H, ⟨xs.length, by simp, Nat.zero_le _, h0⟩, ?_⟩
  rintro i m σ H ⟨rfl, hi, p⟩
  have q := hl i σ H hi p
  by_cases hlt : i < xs.length
  · refine .inr ⟨⟨xs, xs[i], q, by simp [hlt]⟩, Pv (i + 1), fun σ' H' p' => ⟨xs.length - (i + 1), by omega, rfl, hlt, p'⟩, fun x H' y => ?_⟩
    obtain ⟨e, y⟩ := y
    subst e
    exact hs i x σ _ (y xs q) p
  · have e : i = xs.length := by omega
    subst e
    exact .inl ⟨⟨xs, q, Nat.le_refl _⟩, hd σ H p⟩
theorem for_range {lo : Int} {n : Nat} {g : TG} {tb : TS} {D : Ends} {σ : St} {H : Hp} (Pv : Nat → St → Hp → Prop) (h0 : Pv 0 σ H)
    (hs : ∀ i σ H, i < n → Pv i σ H → g (.int (lo + i)) σ H fun σ2 H2 => tb { D with nx := Pv (i + 1), ct := Pv (i + 1), bk := D.nx } σ2 H2) (hd : ∀ σ H, Pv n σ H → D.nx σ H) :
    ∃ W : Nat → Nat → St → Hp → Prop, (∃ m, W 0 m σ H) ∧ ∀ i m σ H, W i m σ H →
      ((Itr lo n).stop i H ∧ D.nx σ H) ∨ ((Itr lo n).go i H ∧ ∃ N : St → Hp → Prop, (∀ σ' H', N σ' H' → ∃ m', m' < m ∧ W (i + 1) m' σ' H') ∧ ∀ x H', (Itr lo n).yld i H x H' → g x σ H' fun σ2 H2 => tb { D with nx := N, ct := N, bk := D.nx } σ2 H2) := by
  refine ⟨fun i m σ H => m = n - i ∧ i ≤ n ∧ Pv i σ H, ⟨n, by simp, Nat.zero_le _, h0⟩, ?_⟩
  rintro i m σ H ⟨rfl, hi, p⟩
  by_cases hlt : i < n
  · refine .inr ⟨hlt, Pv (i + 1), fun σ' H' p' => ⟨n - (i + 1), by omega, rfl, hlt, p'⟩, fun x H' y => ?_⟩
    obtain ⟨e, y⟩ := y
    subst e y
    exact hs i σ _ hlt p
  · have e : i = n := by omega
    subst e
    exact .inl ⟨Nat.le_refl _, hd σ H p⟩
end L2

namespace L2
open PySem PySem.Spec PyProof.Rows

noncomputable abbrev R2 := V → V → Hp → VK → Prop
/-- a two-place operation on values: f is binaryOp op, inplaceOp op or compareOp op -/
noncomputable def OpR (X : Cx) (f : Value → Value → Sem Value) (r : R2) : Prop :=
  ∀ (pins : List (Addr × Obj)) (s : Shared) (σ : St) (H : Hp) (x y : V) (v u : Value) (Q : VK), Inv X pins σ H s → RelV x v → RelV y u → r x y H Q →
    wpAny (model X.prog X.w) X.A (f v u) (EP X pins σ Q) X.xe s
/-- a one-place operation -/
noncomputable def UnR (X : Cx) (f : Value → Sem Value) (r : V → Hp → VK → Prop) : Prop :=
  ∀ (pins : List (Addr × Obj)) (s : Shared) (σ : St) (H : Hp) (x : V) (v : Value) (Q : VK), Inv X pins σ H s → RelV x v → r x H Q →
    wpAny (model X.prog X.w) X.A (f v) (EP X pins σ Q) X.xe s
/-- a call of a value that is known (a builtin, a type) with values -/
noncomputable def CallR (X : Cx) (f : Value) (r : List V → Hp → VK → Prop) : Prop :=
  ∀ (pins : List (Addr × Obj)) (s : Shared) (σ : St) (H : Hp) (xs : List V) (us : List Value) (Q : VK), Inv X pins σ H s → Vals xs us → r xs H Q →
    wpAny (model X.prog X.w) X.A (call f us) (EP X pins σ Q) X.xe s
/-- a value's truth -/
noncomputable def TruR (X : Cx) (r : V → Hp → (Bool → Hp → Prop) → Prop) : Prop :=
  ∀ (pins : List (Addr × Obj)) (s : Shared) (σ : St) (H : Hp) (x : V) (v : Value) (Q : Bool → Hp → Prop), Inv X pins σ H s → RelV x v → r x H Q →
    wpAny (model X.prog X.w) X.A (truthy v) (TP X pins σ Q) X.xe s

noncomputable def tOp (r : R2) (ta tb : TE) : TE := fun σ H Q => ta σ H fun x H1 => tb σ H1 fun y H2 => r x y H2 Q
noncomputable def tUn (r : V → Hp → VK → Prop) (ta : TE) : TE := fun σ H Q => ta σ H fun x H1 => r x H1 Q
/-- ints in, under C, and a value out -/
noncomputable def rI (C : Int → Int → Prop) (g : Int → Int → V) : R2 := fun x y H Q => ∃ i j, x = .int i ∧ y = .int j ∧ C i j ∧ Q (g i j) H
noncomputable def rI0 (g : Int → Int → V) : R2 := fun x y H Q => ∃ i j, x = .int i ∧ y = .int j ∧ Q (g i j) H
noncomputable def rU (g : Int → V) : V → Hp → VK → Prop := fun x H Q => ∃ i, x = .int i ∧ Q (g i) H

section
variable {X : Cx} {a b c : Expr} {ta tb tc : TE} {pos : Pos}

theorem binT (ha : PE X a ta) (hb : PE X b tb) {pins : List (Addr × Obj)} {s : Shared} {σ : St} {H : Hp} {R : V → V → Hp → Prop} (I : Inv X pins σ H s)
    (h : ta σ H fun x H1 => tb σ H1 fun y H2 => R x y H2) {Q : Value → Shared → Prop} {f : Value → Value → Sem Value}
    (hf : ∀ v u s2 x y H2, Inv X pins σ H2 s2 → RelV x v → RelV y u → R x y H2 → wpAny (model X.prog X.w) X.A (f v u) Q X.xe s2) :
    wpAny (model X.prog X.w) X.A (eval a X.env) (fun v s₁ => wpAny (model X.prog X.w) X.A (eval b X.env) (fun u s₂ => wpAny (model X.prog X.w) X.A (f v u) Q X.xe s₂) X.xe s₁) X.xe s := by
  refine thn (ha pins s σ H _ I h) fun v s1 hz15 => ?_
  obtain ⟨x, H1, I1, r1, q1⟩ := hz15
  refine thn (hb pins s1 σ H1 _ I1 q1) fun u s2 hz16 => ?_
  obtain ⟨y, H2, I2, r2, q2⟩ := hz16
  exact hf v u s2 x y H2 I2 r1 r2 q2

theorem pe_op {op : Operator} {r : R2} (ho : OpR X (binaryOp op) r) (ha : PE X a ta) (hb : PE X b tb) : PE X (.BinOp a op b pos) (tOp r ta tb) := by
  intro pins s σ H Q I h
  exact wpAny_BinOp (binT ha hb I h fun v u s2 x y H2 I2 rx ry q => ho pins s2 σ H2 x y v u Q I2 rx ry q)
/-! ### ints -/
theorem opI {f : Value → Value → Sem Value} {C : Int → Int → Prop} {g : Int → Int → Int}
    (rule : ∀ (i j : Int) (t u : Tok) (s : Shared) (Q : Value → Shared → Prop) (E : Value → Shared → Prop), C i j → Q (.int (g i j) s.toks) { s with toks := s.toks + 1 } → wpAny (model X.prog X.w) X.A (f (.int i t) (.int j u)) Q E s) :
    OpR X f (rI C fun i j => .int (g i j)) := by
  intro pins s σ H x y v u Q I rx ry h
  obtain ⟨i, j, rfl, rfl, hc, q⟩ := h
  obtain ⟨t, rfl⟩ := rx
  obtain ⟨t', rfl⟩ := ry
  exact rule i j t t' s _ _ hc ⟨.int (g i j), H, I.tok _, ⟨_, rfl⟩, q⟩
theorem opI0 {f : Value → Value → Sem Value} {g : Int → Int → Int}
    (rule : ∀ (i j : Int) (t u : Tok) (s : Shared) (Q : Value → Shared → Prop) (E : Value → Shared → Prop), Q (.int (g i j) s.toks) { s with toks := s.toks + 1 } → wpAny (model X.prog X.w) X.A (f (.int i t) (.int j u)) Q E s) :
    OpR X f (rI0 fun i j => .int (g i j)) := by
  intro pins s σ H x y v u Q I rx ry h
  obtain ⟨i, j, rfl, rfl, q⟩ := h
  obtain ⟨t, rfl⟩ := rx
  obtain ⟨t', rfl⟩ := ry
  exact rule i j t t' s _ _ ⟨.int (g i j), H, I.tok _, ⟨_, rfl⟩, q⟩
theorem opB0 {f : Value → Value → Sem Value} {g : Int → Int → Bool}
    (rule : ∀ (i j : Int) (t u : Tok) (s : Shared) (Q : Value → Shared → Prop) (E : Value → Shared → Prop), Q (.bool (g i j)) s → wpAny (model X.prog X.w) X.A (f (.int i t) (.int j u)) Q E s) :
    OpR X f (rI0 fun i j => .bl (g i j)) := by
  intro pins s σ H x y v u Q I rx ry h
  obtain ⟨i, j, rfl, rfl, q⟩ := h
  obtain ⟨t, rfl⟩ := rx
  obtain ⟨t', rfl⟩ := ry
  exact rule i j t t' s _ _ ⟨.bl (g i j), H, I, rfl, q⟩

noncomputable def CDiv (i j : Int) : Prop := 0 < j ∧ j < 1073741824
noncomputable def CDivN (i j : Int) : Prop := j ≠ 0 ∧ j.natAbs < 1073741824
noncomputable def CPow (i j : Int) : Prop := 0 ≤ j ∧ j ≤ 1000000 ∧ i.natAbs < 2 ^ 64
noncomputable def CMul (i j : Int) : Prop := (-(2 ^ 64) < i ∧ i < 2 ^ 64) ∨ (-(2 ^ 64) < j ∧ j < 2 ^ 64)
theorem CMul.ok {i j : Int} (h : CMul i j) : IntMulOk i j := by
  rcases h with ⟨h1, h2⟩ | ⟨h1, h2⟩
  · exact .of_left (intBits_le_64 h1 h2)
  · exact .of_right (intBits_le_64 h1 h2)
theorem op_add : OpR X (binaryOp .Add) (rI0 fun i j => .int (i + j)) := opI0 fun _ _ _ _ _ _ _ q => add_int q
theorem op_sub : OpR X (binaryOp .Sub) (rI0 fun i j => .int (i - j)) := opI0 fun _ _ _ _ _ _ _ q => sub_int q
theorem op_mul : OpR X (binaryOp .Mult) (rI CMul fun i j => .int (i * j)) := opI fun _ _ _ _ _ _ _ hc q => mul_int q hc.ok
/-- // by a positive divisor -/
theorem op_fdiv : OpR X (binaryOp .FloorDiv) (rI CDiv fun i j => .int (i / j)) := opI fun i j _ _ _ _ _ hc q => by
  have h1 : (0 : Int) < j := hc.1
  have h2 : j < 1073741824 := hc.2
  exact floordiv_int (by omega) (by rw [Int.fdiv_eq_ediv_of_nonneg i (by omega)]; exact q) (.inl (PyProof.noPylong_small (by omega)))
/-- % by a positive divisor of any size -/
theorem op_mod : OpR X (binaryOp .Mod) (rI (fun _ j => 0 < j) fun i j => .int (i % j)) := opI fun i j _ _ _ _ _ hc q => by
  have h1 : (0 : Int) < j := hc
  exact mod_int' (by omega) (by rw [Int.fmod_eq_emod_of_nonneg i (by omega)]; exact q)
/-! ### bools among ints: n += (a < b) -/
end

/-! ### comparisons -/
/-- the scalars that == tells apart as data does -/
noncomputable def scal : V → V → Bool
  | .non, .non => true | .non, .int _ => true | .int _, .non => true | .non, .bl _ => true | .bl _, .non => true | .non, .str _ => true | .str _, .non => true
  | .int _, .int _ => true | .bl _, .bl _ => true | .str _, .str _ => true | .byt _, .byt _ => true
  | .int _, .str _ => true | .str _, .int _ => true | .bl _, .str _ => true | .str _, .bl _ => true
  | _, _ => false
noncomputable def rEq : R2 := fun x y H Q => scal x y = true ∧ Q (.bl (decide (x = y))) H
noncomputable def rNe : R2 := fun x y H Q => scal x y = true ∧ Q (.bl (!decide (x = y))) H

theorem dec_int {i j : Int} : decide (V.int i = V.int j) = (i == j) := by
  rw [Bool.eq_iff_iff]
  simp
theorem dec_bl {i j : Bool} : decide (V.bl i = V.bl j) = (i == j) := by
  rw [Bool.eq_iff_iff]
  simp
theorem dec_str {i j : Str} : decide (V.str i = V.str j) = (i == j) := by
  rw [Bool.eq_iff_iff]
  simp
theorem dec_byt {i j : Array UInt8} : decide (V.byt i = V.byt j) = (i.toList == j.toList) := by
  rw [Bool.eq_iff_iff]
  cases i
  cases j
  simp

section
variable {X : Cx} {a b c : Expr} {ta tb tc : TE} {pos : Pos}
theorem fin_bl {pins : List (Addr × Obj)} {σ : St} {H : Hp} {s : Shared} {Q : VK} {k k' : Bool} (I : Inv X pins σ H s) (q : Q (.bl k) H) (e : k = k') : EP X pins σ Q (.bool k') s := by
  subst e
  exact ⟨.bl k, H, I, rfl, q⟩
theorem op_eq : OpR X (compareOp .Eq) rEq := by
  intro pins s σ H x y v u Q I rx ry h
  obtain ⟨hs, q⟩ := h
  cases x with
  | non =>
    cases rx
    cases y with
    | non => cases ry; exact PySem.EqNone.eq_none_none (fin_bl I q (by simp))
    | bl j => cases ry; exact PySem.EqNone.eq_none_bool (fin_bl I q (by simp))
    | int j => obtain ⟨t', rfl⟩ := ry; exact PySem.EqNone.eq_none_int (fin_bl I q (by simp))
    | str j => obtain ⟨t', rfl⟩ := ry; exact PySem.EqNone.eq_none_str (fin_bl I q (by simp))
    | _ => exact absurd (show false = true from hs) Bool.false_ne_true
  | bl i =>
    cases rx
    cases y with
    | non => cases ry; exact PySem.EqNone.eq_bool_none (fin_bl I q (by simp))
    | bl j => cases ry; exact eq_bool (fin_bl I q dec_bl)
    | str j => obtain ⟨t', rfl⟩ := ry; exact PySem.EqMixed.eq_bool_str (fin_bl I q (by simp))
    | _ => exact absurd (show false = true from hs) Bool.false_ne_true
  | int i =>
    obtain ⟨t, rfl⟩ := rx
    cases y with
    | non => cases ry; exact PySem.EqNone.eq_int_none (fin_bl I q (by simp))
    | int j => obtain ⟨t', rfl⟩ := ry; exact eq_int (fin_bl I q dec_int)
    | str j => obtain ⟨t', rfl⟩ := ry; exact PySem.EqMixed.eq_int_str (fin_bl I q (by simp))
    | _ => exact absurd (show false = true from hs) Bool.false_ne_true
  | str i =>
    obtain ⟨t, rfl⟩ := rx
    cases y with
    | non => cases ry; exact PySem.EqNone.eq_str_none (fin_bl I q (by simp))
    | bl j => cases ry; exact PySem.EqMixed.eq_str_bool (fin_bl I q (by simp))
    | int j => obtain ⟨t', rfl⟩ := ry; exact PySem.EqMixed.eq_str_int (fin_bl I q (by simp))
    | str j => obtain ⟨t', rfl⟩ := ry; exact eq_str (fin_bl I q dec_str)
    | _ => exact absurd (show false = true from hs) Bool.false_ne_true
  | byt i =>
    obtain ⟨t, rfl⟩ := rx
    cases y with
    | byt j => obtain ⟨t', rfl⟩ := ry; exact PySem.W.eq_bytes (fin_bl I q dec_byt)
    | _ => exact absurd (show false = true from hs) Bool.false_ne_true
  | _ => cases y <;> exact absurd (show false = true from hs) Bool.false_ne_true
theorem op_ne : OpR X (compareOp .NotEq) rNe := by
  intro pins s σ H x y v u Q I rx ry h
  obtain ⟨hs, q⟩ := h
  cases x with
  | non =>
    cases rx
    cases y with
    | non => cases ry; exact PySem.EqNone.ne_none_none (fin_bl I q (by simp))
    | bl j => cases ry; exact PySem.EqNone.ne_none_bool (fin_bl I q (by simp))
    | int j => obtain ⟨t', rfl⟩ := ry; exact PySem.EqNone.ne_none_int (fin_bl I q (by simp))
    | str j => obtain ⟨t', rfl⟩ := ry; exact PySem.EqNone.ne_none_str (fin_bl I q (by simp))
    | _ => exact absurd (show false = true from hs) Bool.false_ne_true
  | bl i =>
    cases rx
    cases y with
    | non => cases ry; exact PySem.EqNone.ne_bool_none (fin_bl I q (by simp))
    | bl j => cases ry; exact ne_bool (fin_bl I q (congrArg not dec_bl))
    | str j => obtain ⟨t', rfl⟩ := ry; exact PySem.EqMixed.ne_bool_str (fin_bl I q (by simp))
    | _ => exact absurd (show false = true from hs) Bool.false_ne_true
  | int i =>
    obtain ⟨t, rfl⟩ := rx
    cases y with
    | non => cases ry; exact PySem.EqNone.ne_int_none (fin_bl I q (by simp))
    | int j => obtain ⟨t', rfl⟩ := ry; exact ne_int (fin_bl I q (congrArg not dec_int))
    | str j => obtain ⟨t', rfl⟩ := ry; exact PySem.EqMixed.ne_int_str (fin_bl I q (by simp))
    | _ => exact absurd (show false = true from hs) Bool.false_ne_true
  | str i =>
    obtain ⟨t, rfl⟩ := rx
    cases y with
    | non => cases ry; exact PySem.EqNone.ne_str_none (fin_bl I q (by simp))
    | bl j => cases ry; exact PySem.EqMixed.ne_str_bool (fin_bl I q (by simp))
    | int j => obtain ⟨t', rfl⟩ := ry; exact PySem.EqMixed.ne_str_int (fin_bl I q (by simp))
    | str j => obtain ⟨t', rfl⟩ := ry; exact ne_str (fin_bl I q (congrArg not dec_str))
    | _ => exact absurd (show false = true from hs) Bool.false_ne_true
  | byt i =>
    obtain ⟨t, rfl⟩ := rx
    cases y with
    | byt j => obtain ⟨t', rfl⟩ := ry; exact PySem.W.ne_bytes (fin_bl I q (congrArg not dec_byt))
    | _ => exact absurd (show false = true from hs) Bool.false_ne_true
  | _ => cases y <;> exact absurd (show false = true from hs) Bool.false_ne_true

theorem op_le : OpR X (compareOp .LtE) (rI0 fun i j => .bl (decide (i ≤ j))) := opB0 fun _ _ _ _ _ _ _ q => le_int q
theorem op_gt : OpR X (compareOp .Gt) (rI0 fun i j => .bl (decide (j < i))) := opB0 fun _ _ _ _ _ _ _ q => gt_int q
/-- the one string within the other -/
theorem op_in_str : OpR X (compareOp .In) (fun x y H Q => ∃ i j, x = .str i ∧ y = .str j ∧ Q (.bl (!(Builtin.Str.occurrences j i 0 j.length 1).isEmpty)) H) := by
  intro pins s σ H x y v u Q I rx ry h
  obtain ⟨i, j, rfl, rfl, q⟩ := h
  obtain ⟨t, rfl⟩ := rx
  obtain ⟨t', rfl⟩ := ry
  exact in_str (fin_bl I q rfl)

theorem op_notN : OpR X (compareOp .IsNot) (fun x y H Q => y = .non ∧ Q (.bl (!decide (x = .non))) H) := by
  intro pins s σ H x y v u Q I rx ry h
  obtain ⟨rfl, q⟩ := h
  cases ry
  refine isnot_none_gen (fin_bl I q ?_)
  cases x <;> first
    | (cases rx; rfl)
    | (obtain ⟨t, rfl⟩ := rx; rfl)

/-- is, is not of two objects that are tracked lists or instances -/
noncomputable def isObj : HO → Bool
  | .lst _ => true
  | .ins _ _ _ => true
  | _ => false
theorem nomark (b : Expr) {op : CmpOp} (h : op ≠ .In := by decide) (h2 : op ≠ .NotIn := by decide) : behindInMarks op b = false := by
  have e1 : (op == CmpOp.In) = false := by cases op <;> first | rfl | exact absurd rfl h
  have e2 : (op == CmpOp.NotIn) = false := by cases op <;> first | rfl | exact absurd rfl h2
  cases b <;> simp [behindInMarks, e1, e2]
/-- a comparison as a value; hm: nomark b, or (for in, not in) by with_unfolding_all rfl -/
theorem pe_cmpR {op : CmpOp} {r : R2} (ho : OpR X (compareOp op) r) (ha : PE X a ta) (hb : PE X b tb) (hm : behindInMarks op b = false) : PE X (.Compare a [op] [b] pos) (tOp r ta tb) := by
  intro pins s σ H Q I h
  exact wpAny_Compare1 (binT ha hb I h fun v u s2 x y H2 I2 rx ry q => ho pins s2 σ H2 x y v u Q I2 rx ry q) hm
/-- a reading of a value as a test -/
noncomputable def tTest (t : TE) : TT := fun σ H Q => t σ H fun x H' => ∃ k, x = .bl k ∧ Q k H'
theorem pt_cmpR {op : CmpOp} {r : R2} (ho : OpR X (compareOp op) r) (ha : PE X a ta) (hb : PE X b tb) (hm : behindInMarks op b = false) : PT X (.Compare a [op] [b] pos) (tTest (tOp r ta tb)) := by
  intro pins s σ H Q I h
  refine wpAny_isTrue_Compare1 (thn (ha pins s σ H _ I h) fun v s1 ⟨x, H1, I1, r1, q1⟩ => thn (hb pins s1 σ H1 _ I1 q1) fun u s2 ⟨y, H2, I2, r2, q2⟩ =>
    thn (ho pins s2 σ H2 x y v u _ I2 r1 r2 q2) fun c s3 ⟨z, H3, I3, r3, k, e, q3⟩ => ?_) hm
  subst e
  cases r3
  exact wpAny_truthy_bool ⟨H3, I3, q3⟩
/-- a op1 b op2 c -/
noncomputable def tChain (r r' : R2) (ta tb tc : TE) : TE := fun σ H Q => ta σ H fun x H1 => tb σ H1 fun y H2 => r x y H2 fun z H3 => ∃ k, z = .bl k ∧
  (if k = true then tc σ H3 fun w' H4 => r' y w' H4 Q else Q (.bl false) H3)
theorem pe_chain {op op' : CmpOp} {r r' : R2} (ho : OpR X (compareOp op) r) (ho' : OpR X (compareOp op') r') (ha : PE X a ta) (hb : PE X b tb) (hc : PE X c tc)
    (hm : lastMarks [op, op'] [b, c] = false := by with_unfolding_all rfl) : PE X (.Compare a [op, op'] [b, c] pos) (tChain r r' ta tb tc) := by
  intro pins s σ H Q I h
  refine Compare_chain (thn (ha pins s σ H _ I h) fun v s1 ⟨x, H1, I1, r1, q1⟩ => chain_link (thn (hb pins s1 σ H1 _ I1 q1) fun u s2 ⟨y, H2, I2, r2, q2⟩ =>
    thn (ho pins s2 σ H2 x y v u _ I2 r1 r2 q2) fun d s3 ⟨z, H3, I3, r3, k, e, q3⟩ => ?_)) hm
  subst e
  cases r3
  refine wpAny_truthy_bool ?_
  cases k with
  | false => exact ite_ff ⟨.bl false, H3, I3, rfl, q3⟩
  | true => exact ite_tt (chain_last (thn (hc pins s3 σ H3 _ I3 q3) fun w' s4 ⟨z', H4, I4, r4, q4⟩ => ho' pins s4 σ H4 y z' u w' Q I4 r2 r4 q4))
/-! ### truth -/
/-- a value's truth by the abstract heap -/
noncomputable def TruV (K : PySem.W.Frag) (x : V) (H : Hp) (k : Bool) : Prop :=
  match x with
  | .non => k = false
  | .bl b => k = b
  | .int i => k = (i != 0)
  | .str y => y.length ≤ sizeLine ∧ k = ((y.length : Int) != 0)
  | .byt y => y.size ≤ sizeLine ∧ k = ((y.size : Int) != 0)
  | .ref p => (∃ xs, SqL K H p xs ∧ k = !xs.isEmpty) ∨ (∃ xs, SqT K H p xs ∧ k = !xs.isEmpty) ∨ ∃ kvs, H p = some (.dK kvs) ∧ k = !kvs.isEmpty
  | _ => False
theorem line63 : (sizeLine : Nat) < 2 ^ 63 := by rw [sizeLine_eq]; decide
/-! ### strs and bytes -/
theorem op_add_str : OpR X (binaryOp .Add) (fun x y H Q => ∃ i j, x = .str i ∧ y = .str j ∧ i.length + j.length ≤ sizeLine ∧ Q (.str (i ++ j)) H) := by
  intro pins s σ H x y v u Q I rx ry h
  obtain ⟨i, j, rfl, rfl, hz, q⟩ := h
  obtain ⟨t, rfl⟩ := rx
  obtain ⟨t', rfl⟩ := ry
  exact add_str (fun t' tk => ⟨.str (i ++ j), H, I.tok _, ⟨_, rfl⟩, q⟩) hz
noncomputable def PlainIxT (b : Expr) : Prop := ∀ o i, subscripted b false o i = operate [o, i] (getItem o i)
/-! ### scalar builtins, by CallR -/
theorem vals1 {x : V} {us : List Value} (r : Vals [x] us) : ∃ u, us = [u] ∧ RelV x u := by
  cases r with
  | cons r1 r2 => cases r2; exact ⟨_, rfl, r1⟩
/-- len of a str, a bytes, a list, a tuple -/
noncomputable def LenV (K : PySem.W.Frag) (x : V) (H : Hp) (n : Nat) : Prop :=
  match x with
  | .str y => y.length ≤ sizeLine ∧ n = y.length
  | .byt y => y.size ≤ sizeLine ∧ n = y.size
  | .ref p => (∃ xs, SqL K H p xs ∧ n = xs.length) ∨ ∃ xs, SqT K H p xs ∧ n = xs.length
  | _ => False
theorem call_len : CallR X (.builtin "len") (fun xs H Q => ∃ x n, xs = [x] ∧ LenV X.K x H n ∧ Q (.int n) H) := by
  intro pins s σ H xs us Q I r h
  obtain ⟨x, n, rfl, e, q⟩ := h
  obtain ⟨u, rfl, rx⟩ := vals1 r
  have hl := line63
  have hs : sizeLine = 16777216 := sizeLine_eq
  cases x with
  | str y =>
    obtain ⟨t, rfl⟩ := rx
    obtain ⟨hy, e'⟩ : y.length ≤ sizeLine ∧ n = y.length := e
    subst e'
    exact len_str (by omega) ⟨.int _, H, I.tok _, ⟨_, rfl⟩, q⟩
  | byt y =>
    obtain ⟨t, rfl⟩ := rx
    obtain ⟨hy, e'⟩ : y.size ≤ sizeLine ∧ n = y.size := e
    subst e'
    exact PySem.W.len_bytes (by omega) ⟨.int _, H, I.tok _, ⟨_, rfl⟩, q⟩
  | ref p =>
    cases rx
    have e' : (∃ xs, SqL X.K H p xs ∧ n = xs.length) ∨ ∃ xs, SqT X.K H p xs ∧ n = xs.length := e
    rcases e' with ⟨xs, hx, e'⟩ | ⟨xs, hx, e'⟩
    · subst e'
      obtain ⟨its, r', pl, hz⟩ := I.list hx
      have hlen := r'.length
      exact Calls.call_len_list pl.isList (by simp only [List.size_toArray]; omega) ⟨.int xs.length, H, I.tok _, ⟨_, by simp only [List.size_toArray]; rw [hlen]⟩, q⟩
    · subst e'
      obtain ⟨its, r', pl, hz⟩ := I.tuple hx
      have hlen := r'.length
      exact len_tuple pl (by simp only [List.size_toArray]; omega) ⟨.int xs.length, H, I.tok _, ⟨_, by simp only [List.size_toArray]; rw [hlen]⟩, q⟩
  | _ => exact (show False from e).elim
end
end L2

namespace L2
open PySem PySem.Spec PyProof.Rows

/-! ### an instance, its attributes a map -/
structure ObjM (h : Heap) (x dx C : Addr) (mA : Str → Option Value) : Prop where
  obj : h.get? x = some (PySem.W.instObj C dx)
  ns : h.Ns1 dx mA
  ne : dx ≠ x

theorem lookIn_ns {h : Heap} {dx : Addr} {mA : Str → Option Value} (n : h.Ns1 dx mA) : ∃ od, h.get? dx = some od ∧ ∀ name, PySem.W.lookIn name od = some (mA name) := by
  obtain ⟨o, es, ep, ho, hd, hk, _, hm⟩ := n
  refine ⟨o, ho, fun name => ?_⟩
  have e := hm name
  unfold nsFind findBy at e
  rw [← Array.find?_toList] at e
  unfold PySem.W.lookIn
  rw [hd]
  dsimp only
  split
  · rename_i y q
    rw [q] at e
    exact congrArg some e
  · rename_i q
    rw [q] at e
    have a : es.toList.any (·.refKey) = false := by
      rw [List.any_eq_false]
      intro y hy
      obtain ⟨z, t, hkey⟩ := hk y (Array.mem_toList_iff.mp hy)
      simp [DictEntry.refKey, hkey]
    have a' : ¬ es.toList.any (·.refKey) = true := by rw [a]; exact Bool.false_ne_true
    rw [if_neg a']
    exact congrArg some e

theorem ObjM.look {h : Heap} {x dx C : Addr} {mA : Str → Option Value} (I : ObjM h x dx C mA) : ∃ od, PySem.W.InstAt h x (PySem.W.instObj C dx) C (some od) ∧ ∀ name, PySem.W.lookIn name od = some (mA name) :=
  let ⟨od, ho, hl⟩ := lookIn_ns I.ns
  ⟨od, ⟨I.obj, rfl, rfl, ho⟩, hl⟩

section
variable {prog : Program} {w : World} {A : Around} {E : Value → Shared → Prop} {s : Shared} {K : PySem.W.Frag} {x dx C f : Addr} {mA : Str → Option Value} {name : Str} {v : Value}

theorem get_map {expr : Bool} {Q : Value → Shared → Prop} (X : K.In s.heap) (I : ObjM s.heap x dx C mA) (hg : PySem.W.plainGet K C name = true) (hh : PySem.W.hasDictIn K C = true)
    (ha : PySem.W.findIn K (.ref C) name = some none) (hv : mA name = some v) (hv' : PySem.W.handedIn v = true) (h : Q v { s with toks := s.toks + 1 }) :
    wpAny (model prog w) A (getAttr (.ref x) name expr) Q E s := by
  obtain ⟨od, J, hl⟩ := I.look
  exact PySem.W.get_value X J (PySem.W.plainGet_of hg).1 (PySem.W.findObj_own hh ha rfl (by rw [hl, hv])) hv' h

theorem get_meth {pl : Sem Bool} {Q : Value × List Value → Shared → Prop} (X : K.In s.heap) (I : ObjM s.heap x dx C mA) (hg : PySem.W.plainGet K C name = true)
    (hf : PySem.W.findIn K (.ref C) name = some (some (.ref f))) (ht : PySem.W.isFn K (.ref f) = true) (hv : mA name = none) (h : Q (.ref f, [.ref x]) s) :
    wpAny (model prog w) A (getMethod (.ref x) name pl) Q E s := by
  obtain ⟨od, J, hl⟩ := I.look
  exact PySem.W.method_fn X J (PySem.W.plainGet_of hg).1 (PySem.W.plainGet_of hg).2 hf (beq_iff_eq.mp ht) (by show (PySem.W.lookIn name od).map (·.isSome) = some false; rw [hl, hv]; rfl) h

theorem set_map {ns : List Str} {Q : Unit → Shared → Prop} (X : K.In s.heap) (I : ObjM s.heap x dx C mA)
    (hs : PySem.W.findIn K (.ref C) "__setattr__" = some (some (.builtin "object.__setattr__"))) (hp : PySem.W.plainOver K C = true) (ht : PySem.W.takerIn K C name = some none) (hh : PySem.W.hasDictIn K C = true)
    (hw : PySem.Within mA ns) (hsz : ns.length ≤ sizeLine)
    (h : ∀ h', ObjM h' x dx C (fun y => if y = name then some v else mA y) → Heap.SameBut dx s.heap h' → Q () { s with heap := h', toks := s.toks + 2 }) :
    wpAny (model prog w) A (setAttr (.ref x) name v) Q E s := by
  obtain ⟨od, J, hl⟩ := I.look
  refine PySem.W.set_plain X J hs (PySem.W.osa_open (s := { s with toks := s.toks + 1 }) (r := none) X J hp ht fun b => ?_)
  obtain ⟨cd, hc, hd'⟩ := PySem.W.any_some hh
  have hx : s.heap.get? x = some ⟨.ref C, some dx, .plain, #[]⟩ := I.obj
  refine wpAny_bind (wpAny_pure (wpAny_bind (wpAny_bind (wpAny_loadPart hx (wpAny_bind (PySem.W.Looks.here (s := { s with toks := s.toks + 1 }) (PySem.W.looks_clsIn X hc) ?_))))))
  rw [hd']
  refine wpAny_pure (a := some dx) (wpAny_bind (wpAny_pure (wpAny_bind ?_)))
  refine wpAny_nsSet1 (s := { s with toks := s.toks + 1 }) I.ns fun h' hn2 hs2 => ?_
  obtain ⟨oD, esD, epD, hoD, hdD, hcD⟩ := hn2.count (PySem.Within.cons name v hw)
  refine wpAny_bind (wpAny_lookBehind hoD (by rw [hdD]; exact pastItsLine_dict (Nat.le_trans hcD (by rw [List.length_cons]; omega))) ?_)
  exact wpAny_pure (h _ ⟨(hs2.2 _ (Ne.symm I.ne)).trans I.obj, hn2, I.ne⟩ hs2)

/-- C(..): the dict at the heap's end, the instance behind it; then its __init__ -/
theorem make_map {R : Result → Shared → Prop} {vs : List Value} {kw : List (Str × Value)} (X : K.In s.heap) (hm : PySem.W.makesIn K C = true)
    (hi : PySem.W.findIn K (.ref C) "__init__" = some (some (.ref f))) (hf : PySem.W.typeIn K (.ref f) = some (.type "function"))
    (h : codeAny (model prog w) (A.under (.builtin "type.__call__" ⟨.ref C :: vs, kw⟩)) (.call (.ref f) ⟨.ref (s.heap.objs.size + 1) :: vs, kw⟩) (PySem.W.InitBack (s.heap.objs.size + 1) R)
      { s with heap := (s.heap.push PySem.W.emptyDict).push (PySem.W.instObj C s.heap.objs.size) }) :
    codeAny (model prog w) A (.call (.ref C) ⟨vs, kw⟩) R s := by
  obtain ⟨hh, g, d, t, os⟩ := s
  exact PySem.W.make_core (PySem.W.makes_of X hm) (PySem.W.looks_findIn X hi) (fun self => PySem.W.bind_fn X self hf) (.inl rfl) h
end

/-! ### the attributes as a list of pairs -/
noncomputable def putF (f : Str) (v : V) : List (Str × V) → List (Str × V)
  | [] => [(f, v)]
  | (g, x) :: r => if g = f then (g, v) :: r else (g, x) :: putF f v r
theorem lookup_putF (f g : Str) (v : V) : ∀ fs : List (Str × V), (putF f v fs).lookup g = if g = f then some v else fs.lookup g
  | [] => by
    show List.lookup g [(f, v)] = _
    by_cases h : g = f
    · have hb : (g == f) = true := beq_iff_eq.mpr h
      simp only [List.lookup, hb, if_pos h]
    · have hb : (g == f) = false := beq_eq_false_iff_ne.mpr h
      simp only [List.lookup, hb, if_neg h]
  | (k, x) :: r => by
    have ih := lookup_putF f g v r
    rw [show putF f v ((k, x) :: r) = (if k = f then (k, v) :: r else (k, x) :: putF f v r) from rfl]
    by_cases hk : k = f
    · rw [if_pos hk]
      by_cases h : g = k
      · have hb : (g == k) = true := beq_iff_eq.mpr h
        simp only [List.lookup, hb, if_pos (h.trans hk)]
      · have hb : (g == k) = false := beq_eq_false_iff_ne.mpr h
        simp only [List.lookup, hb, if_neg (fun e : g = f => h (e.trans hk.symm))]
    · rw [if_neg hk]
      by_cases h : g = k
      · have hb : (g == k) = true := beq_iff_eq.mpr h
        simp only [List.lookup, hb, if_neg (fun e : g = f => hk (h.symm.trans e))]
      · have hb : (g == k) = false := beq_eq_false_iff_ne.mpr h
        simp only [List.lookup, hb]
        exact ih
theorem keys_putF (f : Str) (v : V) : ∀ fs : List (Str × V), f ∈ (putF f v fs).map (·.1) ∧ ∀ g, g ∈ fs.map (·.1) → g ∈ (putF f v fs).map (·.1)
  | [] => ⟨by simp [putF], fun g h => by simp at h⟩
  | (k, x) :: r => by
    obtain ⟨i1, i2⟩ := keys_putF f v r
    rw [show putF f v ((k, x) :: r) = (if k = f then (k, v) :: r else (k, x) :: putF f v r) from rfl]
    by_cases hk : k = f
    · rw [if_pos hk]
      subst hk
      exact ⟨by simp, fun g h => by simpa using h⟩
    · rw [if_neg hk]
      refine ⟨?_, fun g h => ?_⟩
      · rw [List.map_cons]
        exact List.mem_cons_of_mem _ i1
      · rw [List.map_cons] at h ⊢
        rcases List.mem_cons.mp h with e | e
        · exact List.mem_cons.mpr (.inl e)
        · exact List.mem_cons_of_mem _ (i2 g e)
theorem length_putF (f : Str) (v : V) : ∀ fs : List (Str × V), (putF f v fs).length ≤ fs.length + 1
  | [] => by simp [putF]
  | (k, x) :: r => by
    have ih := length_putF f v r
    rw [show putF f v ((k, x) :: r) = (if k = f then (k, v) :: r else (k, x) :: putF f v r) from rfl]
    by_cases hk : k = f
    · rw [if_pos hk, List.length_cons, List.length_cons]; omega
    · rw [if_neg hk, List.length_cons, List.length_cons]; omega

theorem RelO.some_of {v : V} {o : Option Value} (r : RelO (some v) o) : ∃ u, o = some u ∧ RelV v u := by
  cases o with
  | none => exact (show False from r).elim
  | some u => exact ⟨u, rfl, r⟩
theorem RelO.none_of {o : Option Value} (r : RelO none o) : o = none := by
  cases o with
  | none => rfl
  | some u => exact (show False from r).elim
theorem handed_of {v : V} {u : Value} (r : RelV v u) : PySem.W.handedIn u = true := by
  cases v with
  | non => cases (show u = Value.none from r); rfl
  | bl b => cases (show u = Value.bool b from r); rfl
  | int i => obtain ⟨t, e⟩ := (show ∃ t, u = Value.int i t from r); cases e; rfl
  | str x => obtain ⟨t, e⟩ := (show ∃ t, u = Value.str x t from r); cases e; rfl
  | byt b => obtain ⟨t, e⟩ := (show ∃ t, u = Value.bytes b t from r); cases e; rfl
  | flt b => obtain ⟨t, e⟩ := (show ∃ t, u = Value.float b t from r); cases e; rfl
  | ref a => cases (show u = Value.ref a from r); rfl
  | ty n => cases (show u = Value.type n from r); rfl

section
variable {P : Program} {w : World} {H H' : Hp} {h h' : Heap} {a C dx : Addr} {fs fs' : List (Str × V)}
theorem ins_get (hok : HOk P w H h) (e : H a = some (.ins C dx fs)) : ∃ mA, ObjM h a dx C mA ∧ (∀ f, RelO (fs.lookup f) (mA f)) ∧ PySem.Within mA (fs.map (·.1)) ∧ fs.length ≤ 1000 ∧ H dx = some (.own a) := by
  obtain ⟨d, z, ne, ob, mA, n, r, q⟩ := (show ObjOk P w H h a (.ins C dx fs) from hok a _ e)
  exact ⟨mA, ⟨ob, n, ne⟩, r, q, z, d⟩
end

/-! ### what of the text a class must have -/
structure Cls (K : PySem.W.Frag) (C : Addr) : Prop where
  pg : PySem.W.plainGet K C Str.empty = true
  hd : PySem.W.hasDictIn K C = true
  po : PySem.W.plainOver K C = true
  sa : PySem.W.findIn K (.ref C) "__setattr__" = some (some (.builtin "object.__setattr__"))
theorem Cls.get {K : PySem.W.Frag} {C : Addr} (c : Cls K C) (f : Str) : PySem.W.plainGet K C f = true := c.pg
/-- no class of it has the name -/
noncomputable def NoAttr (K : PySem.W.Frag) (C : Addr) (f : Str) : Prop := PySem.W.findIn K (.ref C) f = some none
theorem NoAttr.taker {K : PySem.W.Frag} {C : Addr} {f : Str} (n : NoAttr K C f) : PySem.W.takerIn K C f = some none := by
  unfold PySem.W.takerIn
  rw [show PySem.W.findIn K (.ref C) f = some none from n]
  rfl
/-- a constant of the class -/
structure Con (K : PySem.W.Frag) (C : Addr) (f : Str) (v : V) (u : Value) : Prop where
  at_ : PySem.W.findIn K (.ref C) f = some (some u)
  rel : RelV v u
  get : PySem.W.specialIn K u "__get__" = some none
  cp : PySem.W.copiedNames.contains f = false
/-- a method: a plain def of the class or of one above it -/
structure Meth (K : PySem.W.Frag) (C : Addr) (m : Str) (f : Addr) : Prop where
  at_ : PySem.W.findIn K (.ref C) m = some (some (.ref f))
  fn : PySem.W.isFn K (.ref f) = true
  kp : PySem.W.keepIn K (.ref f) = true

section
variable {X : Cx} {pins : List (Addr × Obj)} {σ : St} {H : Hp} {s : Shared} {a C dx : Addr} {fs : List (Str × V)} {f : Str} {v : V} {A : Around} {E : Value → Shared → Prop}

theorem getattr_ok {b : Bool} {Q : Value → Shared → Prop} (I : Inv X pins σ H s) (e : H a = some (.ins C dx fs)) (c : Cls X.K C) (n : NoAttr X.K C f) (l : fs.lookup f = some v)
    (h : ∀ u s', Inv X pins σ H s' → RelV v u → Q u s') : wpAny (model X.prog X.w) A (getAttr (.ref a) f b) Q E s := by
  obtain ⟨mA, O, r, _, _, _⟩ := ins_get I.hok e
  obtain ⟨u, hu, ru⟩ := RelO.some_of (v := v) (o := mA f) (by rw [← l]; exact r f)
  exact get_map I.kIn O (c.get f) c.hd n hu (handed_of ru) (h u _ (I.tok _) ru)

theorem getmeth_ok {m : Str} {g : Addr} {pl : Sem Bool} {Q : Value × List Value → Shared → Prop} (I : Inv X pins σ H s) (e : H a = some (.ins C dx fs)) (c : Cls X.K C) (k : Meth X.K C m g) (l : fs.lookup m = none)
    (h : Q (.ref g, [.ref a]) s) : wpAny (model X.prog X.w) A (getMethod (.ref a) m pl) Q E s := by
  obtain ⟨mA, O, r, _, _, _⟩ := ins_get I.hok e
  have hn : mA m = none := RelO.none_of (by rw [← l]; exact r m)
  exact get_meth I.kIn O (c.get m) k.at_ k.fn hn h

theorem setattr_ok {y : V} {u : Value} {Q : Unit → Shared → Prop} (I : Inv X pins σ H s) (e : H a = some (.ins C dx fs)) (c : Cls X.K C) (n : NoAttr X.K C f) (hl : fs.length < 1000) (ry : RelV y u)
    (h : ∀ s', Inv X pins σ (upd H a (.ins C dx (putF f y fs))) s' → Q () s') : wpAny (model X.prog X.w) A (setAttr (.ref a) f u) Q E s := by
  obtain ⟨mA, O, r, wi, _, ho⟩ := ins_get I.hok e
  have hz : (fs.map (·.1)).length ≤ sizeLine := by rw [List.length_map, sizeLine_eq]; omega
  refine set_map I.kIn O c.sa c.po n.taker c.hd wi hz fun h' O' sb => h _ ?_
  have hd : ∃ o, h'.get? dx = some o := let ⟨o, _, _, e', _⟩ := O'.ns; ⟨o, e'⟩
  refine I.write (x := a) (e := dx) (by rw [e]; exact True.intro) (.inr ho) (fun b q hb z => (sb.2 b hb).trans z) hd ?_
  refine ⟨by rw [upd_ne O.ne]; exact ho, ?_, O.ne, O'.obj, _, O'.ns, fun g => ?_, fun g hg => ?_⟩
  · have := length_putF f y fs; omega
  · show RelO ((putF f y fs).lookup g) (if g = f then some u else mA g)
    rw [lookup_putF]
    by_cases q : g = f
    · rw [if_pos q, if_pos q]; exact ry
    · rw [if_neg q, if_neg q]; exact r g
  · by_cases q : g = f
    · rw [q]; exact (keys_putF f y fs).1
    · refine (keys_putF f y fs).2 g (wi g fun z => hg ?_)
      show (if g = f then some u else mA g) = none
      rw [if_neg q]; exact z

/-- a new instance, tracked, without attributes -/
theorem Inv.made (I : Inv X pins σ H s) : Inv X pins σ (upd (upd H s.heap.objs.size (.own (s.heap.objs.size + 1))) (s.heap.objs.size + 1) (.ins C s.heap.objs.size []))
    { s with heap := (s.heap.push PySem.W.emptyDict).push (PySem.W.instObj C s.heap.objs.size) } := by
  have e1 : (s.heap.push PySem.W.emptyDict).get? s.heap.objs.size = some PySem.W.emptyDict := Heap.get?_push_size s.heap rfl
  have e2 : ((s.heap.push PySem.W.emptyDict).push (PySem.W.instObj C s.heap.objs.size)).get? (s.heap.objs.size + 1) = some (PySem.W.instObj C s.heap.objs.size) := by
    have := Heap.get?_push_size (s.heap.push PySem.W.emptyDict) (o := PySem.W.instObj C s.heap.objs.size) rfl
    rwa [Heap.size_push] at this
  have e3 : (s.heap.push PySem.W.emptyDict).Ns s.heap.objs.size (fun _ => none) := ⟨PySem.W.emptyDict, #[], _, e1, rfl, (fun e he => absurd he (by simp)), fun _ => rfl⟩
  have I1 := I.laid (a := s.heap.objs.size) (o := .own (s.heap.objs.size + 1)) (h' := s.heap.push PySem.W.emptyDict) (t' := s.toks) (fun b u q => Heap.get?_push_of_some _ q) (Nat.le_refl _) ⟨_, e1⟩
  refine I1.laid (a := s.heap.objs.size + 1) (o := .ins C s.heap.objs.size []) (t' := s.toks) (fun b u q => Heap.get?_push_of_some _ q) (Nat.le_of_eq (Heap.size_push _ _)) ?_
  have ne : s.heap.objs.size ≠ s.heap.objs.size + 1 := Nat.ne_of_lt (Nat.lt_succ_self _)
  refine ⟨by rw [upd_ne ne, upd_same], Nat.zero_le _, ne, e2, fun _ => none, (Heap.Ns1.of_empty e3).at fun o q => Heap.get?_push_of_some _ q, fun _ => True.intro, fun y hy => absurd rfl hy⟩

/-- e.f where nothing but the object is asked: through attributeBase (super) and the last hold -/
theorem attr_of {prog : Program} {w : World} {env : Env} {e : Expr} {f : Str} {pos : Pos} {s : Shared} {Q : Value → Shared → Prop} (hb : attributeBase e f env (eval e env) = eval e env)
    (h : wpAny (model prog w) A (eval e env) (fun o s₁ => wpAny (model prog w) A (getAttr o f true) Q E s₁) E s) : wpAny (model prog w) A (eval (.Attribute e f pos) env) Q E s :=
  Attribute_any_ h (by rw [arm_eval_Attribute, hb])
end

/-! ### readings and rules -/
/-- e.f, an attribute of the instance -/
noncomputable def tFld (K : PySem.W.Frag) (ta : TE) (f : Str) : TE := fun σ H Q => ta σ H fun x H1 => ∃ a C dx fs v, x = .ref a ∧ H1 a = some (.ins C dx fs) ∧ Cls K C ∧ NoAttr K C f ∧ fs.lookup f = some v ∧ Q v H1
/-- e.f, a constant of the class -/
noncomputable def tCon (K : PySem.W.Frag) (ta : TE) (f : Str) : TE := fun σ H Q => ta σ H fun x H1 => ∃ a C dx fs v u, x = .ref a ∧ H1 a = some (.ins C dx fs) ∧ Cls K C ∧ Con K C f v u ∧ fs.lookup f = none ∧ Q v H1
/-- e.f = value -/
noncomputable def sFld (K : PySem.W.Frag) (ta tv : TE) (f : Str) : TS := fun D σ H => tv σ H fun y H1 => ta σ H1 fun x H2 => ∃ a C dx fs, x = .ref a ∧ H2 a = some (.ins C dx fs) ∧ Cls K C ∧ NoAttr K C f ∧ fs.length < 1000 ∧
  D.nx σ (upd H2 a (.ins C dx (putF f y fs)))
/-- an augmented operator on two values -/
noncomputable def InOp (X : Cx) (op : Operator) (rd : V → V → Hp → VK → Prop) : Prop :=
  ∀ (pins : List (Addr × Obj)) (s : Shared) (σ : St) (H : Hp) (x y : V) (u v : Value) (Q : VK), Inv X pins σ H s → RelV x u → RelV y v → rd x y H Q → wpAny (model X.prog X.w) X.A (inplaceOp op u v) (EP X pins σ Q) X.xe s
/-- e.f op= value -/
noncomputable def sFldAug (K : PySem.W.Frag) (ta tv : TE) (rd : V → V → Hp → VK → Prop) (f : Str) : TS := fun D σ H => ta σ H fun x H1 => ∃ a C dx fs v, x = .ref a ∧ H1 a = some (.ins C dx fs) ∧ Cls K C ∧ NoAttr K C f ∧ fs.lookup f = some v ∧
  tv σ H1 fun y H2 => rd v y H2 fun z H3 => ∃ dx' fs', H3 a = some (.ins C dx' fs') ∧ fs'.length < 1000 ∧ D.nx σ (upd H3 a (.ins C dx' (putF f z fs')))

section
variable {X : Cx} {o e value : Expr} {f : Str} {pos pos' tpos : Pos} {ta tv : TE}
theorem pe_fld (he : PE X e ta) (hb : attributeBase e f X.env (eval e X.env) = eval e X.env) : PE X (.Attribute e f pos) (tFld X.K ta f) := by
  intro pins s σ H Q I h
  refine attr_of hb (thn (he pins s σ H _ I h) fun u s1 hz17 => ?_)
  obtain ⟨x, H1, I1, rx, a, C, dx, fs, v, ex, ea, c, n, l, q⟩ := hz17
  subst ex
  obtain rfl : u = Value.ref a := rx
  exact getattr_ok I1 ea c n l fun u' s2 I2 ru => ⟨v, H1, I2, ru, q⟩
theorem ps_fld (ha : PE X o ta) (hv : PE X value tv) (hs : swapsWith value (some (.Attribute o f pos')) pos.line X.env = pure false) : PS X (.Assign [.Attribute o f pos'] value pos) (sFld X.K ta tv f) := by
  intro pins s σ H D I h
  refine plainObj_wpAny_Assign_Attribute (thn (hv pins s σ H _ I h) fun u s1 hz18 => ?_) hs
  obtain ⟨y, H1, I1, ry, q⟩ := hz18
  refine thn (ha pins s1 σ H1 _ I1 q) fun ov s2 hz19 => ?_
  obtain ⟨x, H2, I2, rx, a, C, dx, fs, ex, ea, c, n, l, q2⟩ := hz19
  subst ex
  obtain rfl : ov = Value.ref a := rx
  exact setattr_ok I2 ea c n l ry fun s3 I3 => ⟨σ, _, I3, q2⟩
noncomputable def rAdd : V → V → Hp → VK → Prop := fun x y H Q => ∃ i j, x = .int i ∧ y = .int j ∧ Q (.int (i + j)) H
noncomputable def rSub : V → V → Hp → VK → Prop := fun x y H Q => ∃ i j, x = .int i ∧ y = .int j ∧ Q (.int (i - j)) H
end

/-! ### isinstance -/
section
variable {X : Cx} {pins : List (Addr × Obj)} {σ : St} {H : Hp} {s : Shared} {A : Around} {E : Value → Shared → Prop} {Q : Value → Shared → Prop} {c : Value} {b : Bool}
/-- the type of a value, as the fragment's deciders take it; for an instance its class -/
inductive TyOf (K : PySem.W.Frag) (H : Hp) : V → Value → Prop where
  | non : TyOf K H .non (.type "NoneType")
  | bl (x : Bool) : TyOf K H (.bl x) (.type "bool")
  | int (i : Int) : TyOf K H (.int i) (.type "int")
  | str (x : Str) : TyOf K H (.str x) (.type "str")
  | flt (x : UInt64) : TyOf K H (.flt x) (.type "float")
  | lst {a : Addr} {xs : List V} (e : H a = some (.lst xs)) : TyOf K H (.ref a) (.type "list")
  | frz {a : Addr} {o : Obj} {xs : List V} (e : H a = some (.frz o (.lst xs))) : TyOf K H (.ref a) (.type "list")
  | tup {a : Addr} {xs : List V} (e : H a = some (.tup xs)) : TyOf K H (.ref a) (.type "tuple")
  | dK {a : Addr} {kvs : List (Key × V)} (e : H a = some (.dK kvs)) : TyOf K H (.ref a) (.type "dict")
  | dT {a : Addr} {kvs : List (List Key × V)} (e : H a = some (.dT kvs)) : TyOf K H (.ref a) (.type "dict")
  | ins {a C dx : Addr} {fs : List (Str × V)} (e : H a = some (.ins C dx fs)) (cl : Cls K C) (ha : PySem.W.findIn K (.ref C) "__class__" = some (some (.builtin "object.__class__")))
      (hn : PySem.W.specialIn K (.builtin "object.__class__") "__get__" = some (some (.builtin "getset_descriptor.__get__"))) (htk : PySem.W.takesIn K (.builtin "object.__class__") = some true)
      (hm : PySem.W.mroIn K C (.type "object") = some true) : TyOf K H (.ref a) (.ref C)
/-- isinstance(x, c) for one class c, a built-in or an own one: kitOne's answer -/
theorem isinst_ok {x : V} {u t : Value} (I : Inv X pins σ H s) (rx : RelV x u) (ty : TyOf X.K H x t) (e : PySem.W.kitOne X.K t c = some b) (h : ∀ tk, Q (.bool b) { s with toks := tk }) :
    wpAny (model X.prog X.w) A (call (.builtin "isinstance") [u, c]) Q E s := by
  cases ty with
  | non => cases (show u = Value.none from rx); exact PySem.W.kia_one PySem.W.kitx_none I.kIn True.intro e (fun z => nomatch z) h
  | bl y => cases (show u = Value.bool y from rx); exact PySem.W.kia_one PySem.W.kitx_bool I.kIn True.intro e (fun z => nomatch z) h
  | int i => obtain ⟨t, q⟩ := (show ∃ t, u = Value.int i t from rx); cases q; exact PySem.W.kia_one PySem.W.kitx_int I.kIn True.intro e (fun z => nomatch z) h
  | str y => obtain ⟨t, q⟩ := (show ∃ t, u = Value.str y t from rx); cases q; exact PySem.W.kia_one PySem.W.kitx_str I.kIn True.intro e (fun z => nomatch z) h
  | flt y => obtain ⟨t, q⟩ := (show ∃ t, u = Value.float y t from rx); cases q; exact PySem.W.kia_one PySem.W.kitx_float I.kIn True.intro e (fun z => nomatch z) h
  | @lst a xs ea =>
    cases (show u = Value.ref a from rx)
    obtain ⟨_, _, n, _, h1⟩ := (show ObjOk X.prog X.w H s.heap a (.lst xs) from I.hok a _ ea)
    exact PySem.W.kia_one PySem.W.kitx_list I.kIn ⟨_, h1, rfl⟩ e (fun z => nomatch z) h
  | @frz a ob xs ea =>
    cases (show u = Value.ref a from rx)
    obtain ⟨_, _, _, n, _, h1⟩ := (show ObjOk X.prog X.w H s.heap a (.frz ob (.lst xs)) from I.hok a _ ea)
    exact PySem.W.kia_one PySem.W.kitx_list I.kIn ⟨_, h1, rfl⟩ e (fun z => nomatch z) h
  | @tup a xs ea =>
    cases (show u = Value.ref a from rx)
    obtain ⟨_, _, _, p⟩ := (show ObjOk X.prog X.w H s.heap a (.tup xs) from I.hok a _ ea)
    obtain ⟨o, h1, h2, _⟩ := p
    exact PySem.W.kia_one PySem.W.kitx_tuple I.kIn ⟨o, h1, h2⟩ e (fun z => nomatch z) h
  | @dK a kvs ea =>
    cases (show u = Value.ref a from rx)
    obtain ⟨_, _, vs, _, p⟩ := (show ObjOk X.prog X.w H s.heap a (.dK kvs) from I.hok a _ ea)
    obtain ⟨o, es, ep, h1, h2, _⟩ := p
    exact PySem.W.kia_one PySem.W.kitx_dict I.kIn ⟨o, h1, h2.1⟩ e (fun z => nomatch z) h
  | @dT a kvs ea =>
    cases (show u = Value.ref a from rx)
    obtain ⟨_, _, xs, _, o, es, ep, h1, h2, _⟩ := (show ObjOk X.prog X.w H s.heap a (.dT kvs) from I.hok a _ ea)
    exact PySem.W.kia_one PySem.W.kitx_dict I.kIn ⟨o, h1, h2.1⟩ e (fun z => nomatch z) h
  | @ins a C dx fs ea cl ha hn htk hm =>
    cases (show u = Value.ref a from rx)
    obtain ⟨mA, O, _⟩ := ins_get I.hok ea
    obtain ⟨od, J, _⟩ := O.look
    exact PySem.W.kia_one (PySem.W.kitx_own (cl.get _) cl.hd ha hn htk hm) I.kIn J e (fun z => nomatch z) h
end
end L2

namespace L2
open PySem PySem.Spec PyProof.Rows

/-! ### room -/
structure Room (k : Nat) (A : Around) : Prop where
  hd : A.handled = none
  dp : A.depth + 3 * k + 5 < recursionLimit
  un : A.units + 16 * k + 200 < cLine
theorem Room.mono {j k : Nat} {A : Around} (r : Room k A) (h : j ≤ k) : Room j A := ⟨r.hd, by have := r.dp; omega, by have := r.un; omega⟩
theorem Room.deeper {k : Nat} {A : Around} (r : Room (k + 1) A) (env : Env) : Room k (A.deeper env) :=
  ⟨r.hd, by have := r.dp; show A.depth + 1 + 3 * k + 5 < _; omega, by have := r.un; show A.units + 3 + 16 * k + 200 < _; omega⟩
theorem make_depth {A : Around} {C : Addr} {us : List Value} {kw : List (Str × Value)} : (A.under (.builtin "type.__call__" ⟨.ref C :: us, kw⟩)).depth = A.depth + 1 := by
  first | rfl | simp [Around.under, Code.weight, Code.isCreation, Code.isGuard, Code.isCaller, Code.frames, Code.isFrame, guardIds]
theorem make_units {A : Around} {C : Addr} {us : List Value} {kw : List (Str × Value)} : (A.under (.builtin "type.__call__" ⟨.ref C :: us, kw⟩)).units = A.units + 1 := by
  first | rfl | simp [Around.under, Code.cUnits, Code.frames, Code.isFrame]
theorem Room.make {k : Nat} {A : Around} (r : Room (k + 1) A) (C : Addr) (us : List Value) (kw : List (Str × Value)) : Room k (A.under (.builtin "type.__call__" ⟨.ref C :: us, kw⟩)) :=
  ⟨r.hd, by have := r.dp; rw [make_depth]; omega, by have := r.un; rw [make_units]; omega⟩
theorem Room.depth {k : Nat} {A : Around} (r : Room k A) : A.depth < recursionLimit := by have := r.dp; omega
theorem Room.units {k : Nat} {A : Around} (r : Room k A) : A.units + 64 < cLine := by have := r.un; omega
/-! ### argument lists and displays -/
noncomputable def tNil : TA := fun _ H Q => Q [] H
noncomputable def tCons (ta : TE) (tr : TA) : TA := fun σ H Q => ta σ H fun x H1 => tr σ H1 fun xs H2 => Q (x :: xs) H2
section
variable {X : Cx} {e : Expr} {es : List Expr} {te : TE} {t : TA} {pos : Pos}
theorem pa_nil : PA X [] tNil := fun _ _ _ _ H Q I h => Calls.spliced_nil ⟨[], H, I, .nil, h⟩
theorem pa_cons (ha : PE X e te) (hr : PA X es t) (hs : starEach (e :: es) X.env = (false, eval e X.env) :: starEach es X.env := by rfl) : PA X (e :: es) (tCons te t) := by
  intro pos pins s σ H Q I h
  rw [hs]
  show wpAny _ _ (spliced ((false, eval e X.env) :: backTo pos (starEach es X.env))) _ _ s
  refine Calls.spliced_cons (thn (ha pins s σ H _ I h) fun u s1 hz20 => ?_)
  obtain ⟨x, H1, I1, r1, q1⟩ := hz20
  exact thn (hr pos pins s1 σ H1 _ I1 q1) fun us s2 ⟨xs, H2, I2, r2, q2⟩ => ⟨x :: xs, H2, I2, .cons r1 r2, q2⟩

/-- a tuple, a list of written items -/
noncomputable def tTup (t : TA) : TE := fun σ H Q => t σ H fun xs H1 => xs.length ≤ sizeLine ∧ ∀ p, H1 p = none → Q (.ref p) (upd H1 p (.tup xs))
noncomputable def tLst (t : TA) : TE := fun σ H Q => t σ H fun xs H1 => xs.length ≤ sizeLine ∧ ∀ p, H1 p = none → Q (.ref p) (upd H1 p (.lst xs))
theorem pe_tup {x1} (h : PA X es t) : PE X (.Tuple es x1 pos) (tTup t) := by
  intro pins s σ H Q I hq
  refine wpAny_Tuple_spliced (thn (h pos pins s σ H _ I hq) fun us s1 hz21 => ?_)
  obtain ⟨xs, H1, I1, r, z, q⟩ := hz21
  refine ⟨by rw [← r.length]; exact z, ?_⟩
  have hf : H1 s1.heap.objs.size = none := I1.hok.fresh (Nat.le_refl _)
  refine ⟨.ref s1.heap.objs.size, upd H1 s1.heap.objs.size (.tup xs), I1.laid (t' := s1.toks) (fun b u e => Heap.get?_push_of_some _ e) (Nat.le_refl _) ?_, rfl, q _ hf⟩
  exact ⟨z, us, r, ⟨_, Heap.get?_push_size _ rfl, rfl, _, rfl⟩⟩
theorem pe_lst (h : PA X es t) : PE X (.List es pos) (tLst t) := by
  intro pins s σ H Q I hq
  refine wpAny_List_spliced (thn (h pos pins s σ H _ I hq) fun us s1 hz22 => ?_)
  obtain ⟨xs, H1, I1, r, z, q⟩ := hz22
  refine ⟨by rw [← r.length]; exact z, ?_⟩
  have hf : H1 s1.heap.objs.size = none := I1.hok.fresh (Nat.le_refl _)
  refine ⟨.ref s1.heap.objs.size, upd H1 s1.heap.objs.size (.lst xs), I1.laid (t' := s1.toks) (fun b u e => Heap.get?_push_of_some _ e) (Nat.le_refl _) ?_, rfl, q _ hf⟩
  exact ⟨z, us, 0, r, Heap.get?_push_size _ rfl⟩
end

/-! ### what a def promises -/
/-- a def's promise: the bound arguments in the parameters' order, the heap, the wanted end, the wanted exception -/
noncomputable abbrev Sp := List V → Hp → VK → XK → Prop
/-- how an exception lies behind a call (file 08 gives it): the callers' frames, abstract heap and state ahead of the call, the wish, the exception, the state -/
noncomputable abbrev CXT := List Env → Hp → Shared → XK → Value → Shared → Prop

/-- the state at a call -/
structure Env0 (P : Program) (w : World) (K : PySem.W.Frag) (mg : Str → Option Value) (base : Heap) (A : Around) (outer : List Env) (s : Shared) (H : Hp) : Prop where
  frames : A.frames = some outer
  mod : Mod K mg base
  bs : ∀ b o, base.get? b = some o → s.heap.get? b = some o ∧ H b = none
  bsz : base.objs.size ≤ s.heap.objs.size
  funs : s.heap.FunFrames base outer
  frf : ∀ b ∈ frs outer, H b = none
  hok : HOk P w H s.heap
  bare : AllBare s.gens
/-- a call's end -/
noncomputable def CE (outer : List Env) (P : Program) (w : World) (H : Hp) (s : Shared) (Q : VK) (u : Value) (s' : Shared) : Prop :=
  ∃ v H', s'.os = s.os ∧ AllBare s'.gens ∧ Un (frs outer) [] H H' s.heap s'.heap ∧ HOk P w H' s'.heap ∧ RelV v u ∧ Q v H'
noncomputable def CR (CX : CXT) (outer : List Env) (P : Program) (w : World) (H : Hp) (s : Shared) (Q : VK) (E : XK) (r : Result) (s' : Shared) : Prop :=
  match r with
  | .ok (.ret u) => CE outer P w H s Q u s'
  | .ok _ => False
  | .error e => CX outer H s E e s'
structure FnOk (P : Program) (w : World) (K : PySem.W.Frag) (mg : Str → Option Value) (base : Heap) (CX : CXT) (k : Nat) (f : Addr) (fd : FuncData) (ps : List Str) (sp : Sp) : Prop where
  len : ∀ vs H Q E, sp vs H Q E → vs.length = ps.length
  run : ∀ (A : Around) (outer : List Env) (s : Shared) (H : Hp) (args : Args) (us : List Value) (vs : List V) (Q : VK) (E : XK), Room k A → Env0 P w K mg base A outer s H → BindsTo s fd args (ps.zip us) → Vals vs us → sp vs H Q E →
    codeAny (model P w) A (.call (.ref f) args) (CR CX outer P w H s Q E) s
theorem Env0.make {P : Program} {w : World} {K : PySem.W.Frag} {mg : Str → Option Value} {base : Heap} {A : Around} {outer : List Env} {s : Shared} {H : Hp} (e : Env0 P w K mg base A outer s H) (C : Addr) (us : List Value) (kw : List (Str × Value)) :
    Env0 P w K mg base (A.under (.builtin "type.__call__" ⟨.ref C :: us, kw⟩)) outer s H := ⟨by first | exact e.frames | (simpa [Around.under, Code.envs, Code.isFrame, pushEnvs] using e.frames), e.mod, e.bs, e.bsz, e.funs, e.frf, e.hok, e.bare⟩
section
variable {X : Cx} {pins : List (Addr × Obj)} {σ : St} {H : Hp} {s s' : Shared}
/-- from a body: what a callee wants -/
theorem Inv.env0 (I : Inv X pins σ H s) : Env0 X.prog X.w X.K X.mg X.base X.A X.stack s H :=
  ⟨I.ok.frames, I.ok.mod, I.bs, Nat.le_trans I.ok.bsz I.sz, I.stack, I.stkFree, I.hok, I.bare⟩
/-- behind a call -/
theorem Inv.after {Q : VK} {u : Value} (I : Inv X pins σ H s) (h : CE X.stack X.prog X.w H s Q u s') : EP X pins σ Q u s' := by
  obtain ⟨v, H', os, bare, un, hok, r, q⟩ := h
  obtain ⟨hh, g, d, t, os'⟩ := s'
  obtain rfl : os' = s.os := os
  exact ⟨v, H', I.call (h' := hh) (g' := g) (d' := d) (t' := t) (ch := []) un hok bare (fun b z => absurd z (by simp)), r, q⟩
end

/-! ### calls -/
/-- f(..): the written arguments, then the defaults dvs; E: what is wanted of an exception -/
noncomputable def tCall (sp : Sp) (dvs : List V) (E : XK) (t : TA) : TE := fun σ H Q => t σ H fun vs H1 => sp (vs ++ dvs) H1 Q E
/-- o.m(..) of an instance of the class at C -/
noncomputable def tMeth (C : Addr) (m : Str) (sp : Sp) (dvs : List V) (E : XK) (ta : TE) (t : TA) : TE := fun σ H Q => ta σ H fun x H1 => ∃ a dx fs, x = .ref a ∧ H1 a = some (.ins C dx fs) ∧ fs.lookup m = none ∧
  t σ H1 fun vs H2 => sp (x :: (vs ++ dvs)) H2 Q E
/-- C(..): a new instance and its dict, then __init__ -/
noncomputable def tMake (C : Addr) (sp : Sp) (dvs : List V) (E : XK) (t : TA) : TE := fun σ H Q => t σ H fun vs H1 => ∀ x dx, H1 x = none → H1 dx = none → dx ≠ x →
  sp (.ref x :: (vs ++ dvs)) (upd (upd H1 dx (.own x)) x (.ins C dx [])) (fun v H2 => v = .non ∧ Q (.ref x) H2) E

/-- how the parameters are bound: us the positional arguments, kw the keywords' values by name, ds the defaults that fill up -/
noncomputable def Binds (K : PySem.W.Frag) (fd : FuncData) (ps : List Str) (ds : List Value) : Prop :=
  ∀ (s : Shared) (us : List Value), K.In s.heap → (us ++ ds).length = ps.length → BindsTo s fd ⟨us, []⟩ (ps.zip (us ++ ds))
/-- every parameter is given -/
theorem Binds.all {K : PySem.W.Frag} {fd : FuncData} {ps : List Str} (h : ∀ us : List Value, us.length = ps.length → bindArgs fd ⟨us, []⟩ = pure (ps.zip us)) : Binds K fd ps [] := fun s us _ hl => by
  rw [List.append_nil] at hl ⊢
  exact .of_eq (h us hl)

/-- an exception of a callee reaches what this body wants of exceptions -/
noncomputable def Passes (CX : CXT) (X : Cx) (E : XK) : Prop := ∀ (pins : List (Addr × Obj)) (σ : St) (H : Hp) (s : Shared) (e : Value) (s' : Shared), Inv X pins σ H s → CX X.stack H s E e s' → X.xe e s'

section
variable {X : Cx} {CX : CXT} {k : Nat} {f C : Addr} {fd : FuncData} {ps : List Str} {sp : Sp} {dvs : List V} {ds : List Value} {E : XK} {x m : Str} {p pos apos : Pos} {e o : Expr} {es : List Expr} {ta : TE} {t : TA}

/-- the callee runs -/
theorem run_fn {pins : List (Addr × Obj)} {σ : St} {H : Hp} {s : Shared} {Q : VK} {us : List Value} {vs : List V} (F : FnOk X.prog X.w X.K X.mg X.base CX k f fd ps sp) (hr : Room k X.A) (hb : Binds X.K fd ps ds) (hd : Vals dvs ds) (hx : Passes CX X E)
    (I : Inv X pins σ H s) (r : Vals vs us) (h : sp (vs ++ dvs) H Q E) : wpAny (model X.prog X.w) X.A (call (.ref f) us) (EP X pins σ Q) X.xe s := by
  have r2 : Vals (vs ++ dvs) (us ++ ds) := r.append hd
  have hl : (us ++ ds).length = ps.length := by rw [← r2.length]; exact F.len _ _ _ _ h
  refine wpAny_call (codeAny_mono (F.run X.A X.stack s H ⟨us, []⟩ (us ++ ds) (vs ++ dvs) Q E hr I.env0 (hb s us I.kIn hl) r2 h) fun r s' hq => ?_)
  cases r with
  | error e => exact hx pins σ H s e s' I hq
  | ok fl =>
    cases fl with
    | ret u => exact I.after hq
    | next => exact False.elim hq
    | brk => exact False.elim hq
    | cont => exact False.elim hq

theorem pe_call (F : FnOk X.prog X.w X.K X.mg X.base CX k f fd ps sp) (hr : Room k X.A) (hg : Gl X x) (hm : X.mg x = some (.ref f)) (hk : PySem.W.keepIn X.K (.ref f) = true) (hb : Binds X.K fd ps ds) (hd : Vals dvs ds) (hx : Passes CX X E)
    (ha : PA X (e :: es) t) (hdb : (x == ("__debug__" : Str)) = false := by decide) (he : starEach (e :: es) X.env = (false, eval e X.env) :: starEach es X.env := by rfl) (hpl : (backTo pos (starEach es X.env)).any (·.1) = false := by rfl) :
    PE X (.Call (.Name x p) (e :: es) [] pos) (tCall sp dvs E t) := by
  intro pins s σ H Q I h
  refine wpAny_Call_Name_kw (ld_glob I hg hm ?_ hdb)
  refine PySem.W.callWith_K (h₀ := X.base) I.ok.mod.kin hk (thn (ha pos pins s σ H _ I h) fun us s1 hz23 => ?_) he hpl
  obtain ⟨vs, H1, I1, r, q⟩ := hz23
  refine ⟨I1.kIn, ?_⟩
  exact run_fn F hr hb hd hx I1 r q
theorem pe_call0 (F : FnOk X.prog X.w X.K X.mg X.base CX k f fd ps sp) (hr : Room k X.A) (hg : Gl X x) (hm : X.mg x = some (.ref f)) (hk : PySem.W.keepIn X.K (.ref f) = true) (hb : Binds X.K fd ps ds) (hd : Vals dvs ds) (hx : Passes CX X E)
    (hdb : (x == ("__debug__" : Str)) = false := by decide) : PE X (.Call (.Name x p) [] [] pos) (tCall sp dvs E tNil) := by
  intro pins s σ H Q I h
  refine wpAny_Call_Name_kw (ld_glob I hg hm ?_ hdb)
  exact PySem.W.callWith_K0 I.kIn hk (run_fn (us := []) F hr hb hd hx I .nil h)

/-- o.m() -/
theorem pe_meth0 {pl : Sem Bool} (he : PE X o ta) (c : Cls X.K C) (hm : Meth X.K C m f) (F : FnOk X.prog X.w X.K X.mg X.base CX k f fd ps sp) (hr : Room k X.A) (hb : Binds X.K fd ps ds) (hd : Vals dvs ds) (hx : Passes CX X E)
    (ht : eval (.Call (.Attribute o m apos) [] [] pos) X.env = (do
      let ov ← eval o X.env
      standAt apos.atName
      let (f, first) ← holding [ov] (getMethod ov m pl)
      callWith pos f first (backTo pos (starEach [] X.env)) (backToKw pos (keywordEach [] X.env))) := by rfl) :
    PE X (.Call (.Attribute o m apos) [] [] pos) (tMeth C m sp dvs E ta tNil) := by
  intro pins s σ H Q I h
  refine PySem.W.methodCall_KW (pl := pl) (thn (he pins s σ H _ I h) fun u s1 hz24 => ?_) ht
  obtain ⟨x, H1, I1, rx, a, dx, fs, ex, ea, l, q⟩ := hz24
  subst ex
  obtain rfl : u = Value.ref a := rx
  refine getmeth_ok I1 ea c hm l ?_
  exact PySem.W.callWith_K0 (first := [.ref a]) I1.kIn hm.kp (run_fn (us := [.ref a]) (vs := [.ref a]) F hr hb hd hx I1 (.cons rfl .nil) q)

/-- what a class must have to be made -/
structure Mk (K : PySem.W.Frag) (C f : Addr) : Prop where
  makes : PySem.W.makesIn K C = true
  init : PySem.W.findIn K (.ref C) "__init__" = some (some (.ref f))
  fn : PySem.W.isFn K (.ref f) = true
  kp : PySem.W.keepIn K (.ref C) = true

theorem run_make {pins : List (Addr × Obj)} {σ : St} {H : Hp} {s : Shared} {Q : VK} {us : List Value} {vs : List V} (M : Mk X.K C f) (F : FnOk X.prog X.w X.K X.mg X.base CX k f fd ps sp) (hr : Room (k + 1) X.A) (hb : Binds X.K fd ps ds) (hd : Vals dvs ds)
    (hx : Passes CX X E) (I : Inv X pins σ H s) (r : Vals vs us)
    (h : ∀ x dx, H x = none → H dx = none → dx ≠ x → sp (.ref x :: (vs ++ dvs)) (upd (upd H dx (.own x)) x (.ins C dx [])) (fun v H2 => v = .non ∧ Q (.ref x) H2) E) :
    wpAny (model X.prog X.w) X.A (call (.ref C) us) (EP X pins σ Q) X.xe s := by
  have hq := h (s.heap.objs.size + 1) s.heap.objs.size (I.hok.fresh (Nat.le_succ _)) (I.hok.fresh (Nat.le_refl _)) (Nat.ne_of_lt (Nat.lt_succ_self _))
  have I2 := Inv.made (C := C) I
  have r2 : Vals (V.ref (s.heap.objs.size + 1) :: (vs ++ dvs)) (Value.ref (s.heap.objs.size + 1) :: (us ++ ds)) := .cons rfl (r.append hd)
  have hl : (Value.ref (s.heap.objs.size + 1) :: us ++ ds).length = ps.length := by
    have e := r2.length
    rw [F.len _ _ _ _ hq] at e
    exact e.symm
  refine wpAny_call (make_map (f := f) I.kIn M.makes M.init (beq_iff_eq.mp M.fn) (codeAny_mono (F.run _ X.stack _ _ ⟨Value.ref (s.heap.objs.size + 1) :: us, []⟩ (Value.ref (s.heap.objs.size + 1) :: (us ++ ds)) _ _ E (hr.make C us [])
    (I2.env0.make C us []) (hb _ (Value.ref (s.heap.objs.size + 1) :: us) I2.kIn hl) r2 hq) fun r s' hq' => ?_))
  cases r with
  | error e => exact hx pins σ _ _ e s' I2 hq'
  | ok fl =>
    cases fl with
    | ret u =>
      obtain ⟨v, H', I3, rv, ev, q3⟩ := I2.after hq'
      subst ev
      exact ⟨rv, ⟨V.ref (s.heap.objs.size + 1), H', I3, rfl, q3⟩⟩
    | next => exact False.elim hq'
    | brk => exact False.elim hq'
    | cont => exact False.elim hq'
theorem pe_make (M : Mk X.K C f) (F : FnOk X.prog X.w X.K X.mg X.base CX k f fd ps sp) (hr : Room (k + 1) X.A) (hg : Gl X x) (hm : X.mg x = some (.ref C)) (hb : Binds X.K fd ps ds) (hd : Vals dvs ds) (hx : Passes CX X E)
    (ha : PA X (e :: es) t) (hdb : (x == ("__debug__" : Str)) = false := by decide) (he : starEach (e :: es) X.env = (false, eval e X.env) :: starEach es X.env := by rfl) (hpl : (backTo pos (starEach es X.env)).any (·.1) = false := by rfl) :
    PE X (.Call (.Name x p) (e :: es) [] pos) (tMake C sp dvs E t) := by
  intro pins s σ H Q I h
  refine wpAny_Call_Name_kw (ld_glob I hg hm ?_ hdb)
  refine PySem.W.callWith_K (h₀ := X.base) I.ok.mod.kin M.kp (thn (ha pos pins s σ H _ I h) fun us s1 hz25 => ?_) he hpl
  obtain ⟨vs, H1, I1, r, q⟩ := hz25
  refine ⟨I1.kIn, ?_⟩
  exact run_make M F hr hb hd hx I1 r q
end

/-! ### keywords -/
/-- the values of the keywords, from the left -/
noncomputable def PK (X : Cx) (kws : List Keyword) (t : TA) : Prop :=
  ∀ (pos : Pos) (pins : List (Addr × Obj)) (s : Shared) (σ : St) (H : Hp) (Q : List V → Hp → Prop), Inv X pins σ H s → t σ H Q → wpAny (model X.prog X.w) X.A (evalAll ((backToKw pos (keywordEach kws X.env)).map (·.2))) (AP X pins σ Q) X.xe s
section
variable {X : Cx} {CX : CXT} {k : Nat} {f C : Addr} {fd : FuncData} {ps ks : List Str} {sp : Sp} {E : XK} {x m : Str} {p pos apos kpos : Pos} {e o : Expr} {es : List Expr} {kws : List Keyword} {te ta : TE} {t tk : TA} {nm : Option Str}
/-- how a call with keywords binds: g puts the positional values us and the keywords' values ws (names ks) in the parameters' order, defaults among them -/
structure KBinds (K : PySem.W.Frag) (fd : FuncData) (ps ks : List Str) (g : List Value → List Value → List Value) (gV : List V → List V → List V) : Prop where
  to : ∀ (s : Shared) (us ws : List Value), K.In s.heap → (g us ws).length = ps.length → BindsTo s fd ⟨us, ks.zip ws⟩ (ps.zip (g us ws))
  rel : ∀ {vs : List V} {us : List Value} {zs : List V} {ws : List Value}, Vals vs us → Vals zs ws → Vals (gV vs zs) (g us ws)
noncomputable def tCallK (sp : Sp) (gV : List V → List V → List V) (E : XK) (t tk : TA) : TE := fun σ H Q => t σ H fun vs H1 => tk σ H1 fun zs H2 => sp (gV vs zs) H2 Q E
variable {g : List Value → List Value → List Value} {gV : List V → List V → List V}
end

/-! ### a def's body keeps its promise -/
/-- names: the parameters first -/
structure FnScope (N P : List Str) (sc : Scope) : Prop where
  kind : sc.kind = .function
  co : sc.isCoroutine = false
  gen : sc.isGenerator = false
  nd : N.Nodup
  pre : N.take P.length = P
  par : ∀ x ∈ P, sc.names.lookup x = some .local ∨ sc.names.lookup x = some .cell
  nofree : ∀ y ∈ sc.names, y.2 ≠ .free

theorem bindL_out {kindOf : Str → Option NameKind} {x : Str} : ∀ {binds : List (Str × Value)} {m : Str → Option Value}, (∀ v, (x, v) ∉ binds) → bindL kindOf binds m x = m x
  | [], _, _ => rfl
  | (n, v) :: r, m, h => by
    unfold bindL
    rw [bindL_out fun w hw => h w (List.mem_cons_of_mem _ hw)]
    split
    · have : x ≠ n := by rintro rfl; exact h v List.mem_cons_self
      simp [this]
    · rfl
theorem bindC_out {kindOf : Str → Option NameKind} {x : Str} : ∀ {binds : List (Str × Value)} {m : Str → Option Value}, (∀ v, (x, v) ∉ binds) → bindC kindOf binds m x = m x
  | [], _, _ => rfl
  | (n, v) :: r, m, h => by
    unfold bindC
    rw [bindC_out fun w hw => h w (List.mem_cons_of_mem _ hw)]
    split
    · rfl
    · have : x ≠ n := by rintro rfl; exact h v List.mem_cons_self
      simp [this]
theorem bindL_get {kindOf : Str → Option NameKind} {x : Str} {v : Value} : ∀ {P : List Str} {vs : List Value} {i : Nat} {m : Str → Option Value}, P.Nodup → P[i]? = some x → vs[i]? = some v → kindOf x = some .local →
    bindL kindOf (P.zip vs) m x = some v
  | [], _, _, _, _, h, _, _ => by simp at h
  | _ :: _, [], _, _, _, _, h, _ => by simp at h
  | p :: P, w :: vs, 0, m, nd, h1, h2, hk => by
    simp at h1 h2; subst h1; subst h2
    show bindL kindOf ((p, w) :: P.zip vs) m p = _
    unfold bindL
    rw [bindL_out fun v hv => (List.nodup_cons.mp nd).1 (List.of_mem_zip hv).1, if_pos hk]
    simp
  | p :: P, w :: vs, i + 1, m, nd, h1, h2, hk => by
    show bindL kindOf ((p, w) :: P.zip vs) m x = _
    unfold bindL
    exact bindL_get (i := i) (List.nodup_cons.mp nd).2 (by simpa using h1) (by simpa using h2) hk
theorem bindC_get {kindOf : Str → Option NameKind} {x : Str} {v : Value} : ∀ {P : List Str} {vs : List Value} {i : Nat} {m : Str → Option Value}, P.Nodup → P[i]? = some x → vs[i]? = some v → kindOf x ≠ some .local →
    bindC kindOf (P.zip vs) m x = some v
  | [], _, _, _, _, h, _, _ => by simp at h
  | _ :: _, [], _, _, _, _, h, _ => by simp at h
  | p :: P, w :: vs, 0, m, nd, h1, h2, hk => by
    simp at h1 h2; subst h1; subst h2
    show bindC kindOf ((p, w) :: P.zip vs) m p = _
    unfold bindC
    rw [bindC_out fun v hv => (List.nodup_cons.mp nd).1 (List.of_mem_zip hv).1, if_neg hk]
    simp
  | p :: P, w :: vs, i + 1, m, nd, h1, h2, hk => by
    show bindC kindOf ((p, w) :: P.zip vs) m x = _
    unfold bindC
    exact bindC_get (i := i) (List.nodup_cons.mp nd).2 (by simpa using h1) (by simpa using h2) hk

/-- the names' values at the entry -/
noncomputable def start (N : List Str) (vs : List V) : St := vs.map some ++ List.replicate (N.length - vs.length) none

/-- the context of a def's body, at its entry; an exception leaves the frame, then lies as CX says -/
noncomputable def cxOf (CX : CXT) (P : Program) (w : World) (K : PySem.W.Frag) (mg : Str → Option Value) (base : Heap) (N : List Str) (qual : Str) (scope : Scope) (f : Addr) (cd : Value) (A : Around) (outer : List Env) (s : Shared) (H : Hp) (E : XK) : Cx where
  prog := P
  w := w
  K := K
  mg := mg
  base := base
  A := A.deeper (envOfC qual scope s.heap.objs.size f cd)
  N := N
  s₀ := s
  H₀ := H
  env := envOfC qual scope s.heap.objs.size f cd
  outer := outer
  stack := envOfC qual scope s.heap.objs.size f cd :: outer
  ex := []
  calm := true
  fn := fun _ => true
  pn := []
  xe := fun e s' => wpAny (model P w) (A.deeper (envOfC qual scope s.heap.objs.size f cd)) (leaving (envOfC qual scope s.heap.objs.size f cd) e) (fun _ s'' => CX outer H s E e s'') (fun e' s'' => CX outer H s E e' s'') s'

theorem cell_has {sc : Scope} {n : Nat} {x : Str} (h : sc.names.lookup x = some .cell) : ∃ c, (cellsFrom n sc.names []).lookup x = some c := by
  have q := PySem.W.cellsFrom_some sc.names n [] (.inl h)
  exact Option.isSome_iff_exists.mp q

theorem inv_start {CX : CXT} {P : Program} {w : World} {K : PySem.W.Frag} {mg : Str → Option Value} {base : Heap} {N ps : List Str} {qual : Str} {scope : Scope} {f : Addr} {cd : Value} {A : Around} {outer : List Env} {s s1 : Shared} {H : Hp} {E : XK} {us : List Value} {vs : List V}
    (S : FnScope N ps scope) (hd : A.handled = none) (e0 : Env0 P w K mg base A outer s H) (hl : vs.length = ps.length) (r : Vals vs us)
    (x : InCallC s s.heap.objs.size (bindL (envOfC qual scope s.heap.objs.size f cd).kindOf (ps.zip us) fun _ => none) (cellsFrom (s.heap.objs.size + 1) scope.names []) (bindC (envOfC qual scope s.heap.objs.size f cd).kindOf (ps.zip us) fun _ => none) s1) :
    Inv (cxOf CX P w K mg base N qual scope f cd A outer s H E) [] (start N vs) H s1 := by
  have hpl : ps.length ≤ N.length := by have := congrArg List.length S.pre; rw [List.length_take] at this; omega
  obtain ⟨h1, tk, rfl, hk⟩ := x.done
  have noA : ∀ b : Addr, b ∉ (cxOf CX P w K mg base N qual scope f cd A outer s H E).ex := fun b z => absurd (show b ∈ ([] : List Addr) from z) (by simp)
  refine ⟨⟨e0.mod, S.kind, rfl, rfl, Nat.le_refl _, fun y z c h1 h2 => ?_, fun y hy => ?_, fun y c _ h => ?_, fun _ => hd, Around.frames_deeper e0.frames, .inr ⟨rfl, rfl⟩, fun b z => absurd z (noA b), e0.bs, e0.bsz, fun b _ _ => noA b, fun b z => absurd z (noA b), e0.funs, e0.frf⟩,
    rfl, e0.bare, Un.kept hk, ⟨_, x.toInCall.ns, fun i y v h1 h2 h3 => ?_⟩, fun y c h => ⟨_, x.cell y c h⟩, e0.hok.fresh (Nat.le_refl _), fun y c h => ?_, fun p hp => absurd (show p ∈ ([] : List (Addr × Obj)) from hp) (by simp), e0.hok.kept hk, ?_⟩
  · exact name_of_addr x.apart (PySem.mem_of_lookup h1) (PySem.mem_of_lookup h2)
  · have hy : scope.names.lookup y = some .cell ∨ scope.names.lookup y = some .free := hy
    rcases hy with hy | hy
    · exact cell_has hy
    · exact absurd rfl (S.nofree _ (PySem.mem_of_lookup hy))
  · exact Nat.le_of_lt (x.above y c (PySem.mem_of_lookup h))
  · have hi : i < vs.length := by
      unfold start at h2
      by_cases hi : i < vs.length
      · exact hi
      · rw [List.getElem?_append_right (by simpa using hi)] at h2
        rw [List.getElem?_replicate] at h2
        split at h2 <;> cases h2
    have ha : vs[i]? = some v := by
      unfold start at h2
      rw [List.getElem?_append_left (by simpa using hi), List.getElem?_map] at h2
      cases e : vs[i]? with
      | none => rw [e] at h2; cases h2
      | some a => rw [e] at h2; cases h2; rfl
    obtain ⟨u, hu, rv⟩ := r.get ha
    have hp : ps[i]? = some y := by
      rw [← S.pre, List.getElem?_take_of_lt (by omega)]; exact h1
    have ndP : ps.Nodup := by rw [← S.pre]; exact S.nd.sublist (List.take_sublist _ _)
    refine ⟨u, rv, ?_⟩
    rcases S.par y (List.mem_of_getElem? hp) with k | k
    · exact .inl ⟨k, bindL_get ndP hp hu k⟩
    · obtain ⟨c, e⟩ := cell_has (n := s.heap.objs.size + 1) k
      refine .inr ⟨.inl k, c, e, ?_⟩
      have q := x.cell y c e
      rw [bindC_get ndP hp hu (by show scope.names.lookup y ≠ _; rw [k]; decide)] at q
      exact q
  · exact e0.hok.fresh (Nat.le_of_lt (x.above y c (PySem.mem_of_lookup h)))
  · unfold start
    show _ = N.length
    rw [List.length_append, List.length_map, List.length_replicate]
    omega

/-- THE RULE: a def (or a method) of the text, by its body. The body's reading t is chosen for each entry; it is run at the parameters' values -/
theorem fn_of {CX : CXT} {P : Program} {w : World} {K : PySem.W.Frag} {mg : Str → Option Value} {base : Heap} {k : Nat} {f : Addr} {name qual : Str} {params : Arguments} {body : List Stmt} {scope : Scope} {dV kV doc pm cdv ct oc : Value} {an od : Option Addr}
    {osl : Array (Option Value)} {N ps : List Str} {sp : Sp} (lk : K.lookup f = some ⟨oc, od, .func (PySem.W.fnOf name qual params body scope dV kV doc pm an cdv ct), osl⟩) (hcd : PySem.W.codeIn K cdv qual = true) (S : FnScope N ps scope)
    (len : ∀ vs H Q E, sp vs H Q E → vs.length = ps.length)
    (hbody : ∀ (A : Around) (outer : List Env) (s : Shared) (H : Hp) (vs : List V) (Q : VK) (E : XK), Room k (A.deeper (envOfC qual scope s.heap.objs.size f cdv)) → sp vs H Q E →
      ∃ t, PSs (cxOf CX P w K mg base N qual scope f cdv A outer s H E) body t ∧ t { nx := fun _ H' => Q .non H', rt := Q } (start N vs) H) :
    FnOk P w K mg base CX (k + 1) f (PySem.W.fnOf name qual params body scope dV kV doc pm an cdv ct) ps sp := by
  refine ⟨len, fun A outer s H args us vs Q E hr e0 hb r hsp => ?_⟩
  have hl := len _ _ _ _ hsp
  have KX : K.In s.heap := e0.mod.kin.keeps fun b o e => (e0.bs b o e).1
  have lim : s.heap.NoLimit := e0.mod.nolimit.keeps fun b o e => (e0.bs b o e).1
  have hkind : ∀ y ∈ ps.zip us, scope.names.lookup y.1 = some .local ∨ (scope.names.lookup y.1 = some .cell ∧ ((cellsFrom (s.heap.objs.size + 1) scope.names []).lookup y.1).isSome = true) := fun ⟨n, v⟩ hy => by
    rcases S.par n (List.of_mem_zip hy).1 with q | q
    · exact .inl q
    · exact .inr ⟨q, PySem.W.cellsFrom_some _ _ _ (.inl q)⟩
  refine codeAny_call_function hr.depth (KX _ _ lk) rfl S.co S.gen rfl (PySem.W.codeRec_of KX hcd) (hb _ _ _ _ ?_)
  refine wpAny_newFunctionEnv_cells S.kind hkind fun env he s1 x => ?_
  subst he
  refine ⟨lim.keeps x.toInCall.keep, codeAny_func ?_⟩
  obtain ⟨t, ht, hq⟩ := hbody A outer s H vs Q E (hr.deeper _) hsp
  have I : Inv (cxOf CX P w K mg base N qual scope f cdv A outer s H E) [] (start N vs) H s1 := inv_start S hr.hd e0 hl r x
  refine wpAny_mono (ht [] s1 (start N vs) H _ I hq) (fun fl s' hs => ?_) fun e s' hs => hs
  have fin : ∀ {σ' : St} {H' : Hp} {v : V} {u : Value}, Inv (cxOf CX P w K mg base N qual scope f cdv A outer s H E) [] σ' H' s' → RelV v u → Q v H' → CE outer P w H s Q u s' :=
    fun {σ' H' v u} J rv q => ⟨v, H', J.os, J.bare, J.base, J.hok, rv, q⟩
  cases fl with
  | ret u =>
    obtain ⟨v, σ', H', J, rv, q⟩ := hs
    exact fin J rv q
  | next =>
    obtain ⟨σ', H', J, q⟩ := hs
    exact fin (v := V.non) (u := Value.none) J rfl q
  | brk =>
    obtain ⟨_, _, _, q⟩ := hs
    exact False.elim q
  | cont =>
    obtain ⟨_, _, _, q⟩ := hs
    exact False.elim q
end L2

namespace L2
open PySem PySem.Spec PyProof.Rows
section
variable {X : Cx} {x : Str} {p pos : Pos} {e : Expr} {es : List Expr} {t : TA} {id T : String} {r : List V → Hp → VK → Prop}

noncomputable def tCB (r : List V → Hp → VK → Prop) (t : TA) : TE := fun σ H Q => t σ H fun vs H1 => r vs H1 Q
/-- f(e, ..), f a built-in function -/
theorem pe_callB (hc : CallR X (.builtin id) r) (hg : Gl X x) (hm : X.mg x = none) (hv : bootBuiltins x = some (.builtin id)) (ha : PA X (e :: es) t) (hn : x ≠ "__name__" := by decide) (hdb : (x == ("__debug__" : Str)) = false := by decide)
    (he : starEach (e :: es) X.env = (false, eval e X.env) :: starEach es X.env := by rfl) (hpl : (backTo pos (starEach es X.env)).any (·.1) = false := by rfl) : PE X (.Call (.Name x p) (e :: es) [] pos) (tCB r t) := by
  intro pins s σ H Q I h
  refine wpAny_Call_Name_kw (ld_blt I hg hm hv ?_ hn hdb)
  exact PyProof.Rows.callWith_builtin1 (thn (ha pos pins s σ H _ I h) fun us s1 ⟨vs, H1, I1, r1, q1⟩ => hc pins s1 σ H1 vs us Q I1 r1 q1) he hpl
/-- T(e, ..), T a built-in type -/
theorem pe_callTy (hc : CallR X (.type T) r) (hg : Gl X x) (hm : X.mg x = none) (hv : bootBuiltins x = some (.type T)) (ha : PA X (e :: es) t) (hn : x ≠ "__name__" := by decide) (hdb : (x == ("__debug__" : Str)) = false := by decide)
    (he : starEach (e :: es) X.env = (false, eval e X.env) :: starEach es X.env := by rfl) (hpl : (backTo pos (starEach es X.env)).any (·.1) = false := by rfl) : PE X (.Call (.Name x p) (e :: es) [] pos) (tCB r t) := by
  intro pins s σ H Q I h
  refine wpAny_Call_Name_kw (ld_blt I hg hm hv ?_ hn hdb)
  exact PyProof.Rows.callWith_type1 (thn (ha pos pins s σ H _ I h) fun us s1 ⟨vs, H1, I1, r1, q1⟩ => hc pins s1 σ H1 vs us Q I1 r1 q1) he hpl
end
end L2

namespace HT
open PySem PyProof.Rows

/-- t < u of tuples of ints -/
noncomputable def lexLt : List Int → List Int → Bool
  | [], [] => false
  | [], _ :: _ => true
  | _ :: _, [] => false
  | x :: xs, y :: ys => if x = y then lexLt xs ys else decide (x < y)
section
open PySem.SeqAt
open PySem.AutoSeq1 (wpAny_loadPart')
open PySem.MeetsSeq PySem.MeetsSeq2 PySem.MeetsSeq3

end

section
variable {prog : Program} {w : World} {A : Around} {E : Value → Shared → Prop} {s : Shared}

/-! ### t[a:b], not the whole -/
/-- a slice's bound as a place among n (d where it is left out) -/
noncomputable def sIx (n d : Nat) : Option Int → Nat
  | none => d
  | some v => if v < 0 then (v + (n : Int)).toNat else min v.toNat n
end
end HT

namespace L2
open PySem PySem.Spec PyProof.Rows

/-! ### the parts of a slice -/
noncomputable abbrev TO := St → Hp → (Option Int → Hp → Prop) → Prop
/-- a slice's part (left out, or an int) -/
noncomputable def PO (X : Cx) (e : Option Expr) (t : TO) : Prop :=
  ∀ (pins : List (Addr × Obj)) (s : Shared) (σ : St) (H : Hp) (Q : Option Int → Hp → Prop), Inv X pins σ H s → t σ H Q →
    wpAny (model X.prog X.w) X.A (evalPart e X.env) (fun u s' => ∃ o H', Inv X pins σ H' s' ∧ IsPart u o ∧ Q o H') X.xe s
noncomputable def tNoPart : TO := fun _ H Q => Q none H
noncomputable def tPart (t : TE) : TO := fun σ H Q => t σ H fun x H1 => ∃ i, x = .int i ∧ Q (some i) H1

section
variable {X : Cx} {e : Expr} {te : TE} {lo hi : Option Expr} {tl th : TO} {pos p2 : Pos}

theorem po_none : PO X none tNoPart := by
  intro pins s σ H Q I h
  rw [evalPart_none]
  exact wpAny_pure ⟨none, H, I, .none, h⟩
theorem po_some (h : PE X e te) : PO X (some e) (tPart te) := by
  intro pins s σ H Q I hw
  rw [evalPart_some]
  refine thn (h pins s σ H _ I hw) fun u s1 hz26 => ?_
  obtain ⟨x, H1, I1, r1, q1⟩ := hz26
  obtain ⟨i, rfl, q⟩ := q1
  obtain ⟨t, rfl⟩ := r1
  exact ⟨some i, H1, I1, .int i t, q⟩

/-- what a slice of a value is, by values: the slice object stands at sl -/
noncomputable def SlR (X : Cx) (r : V → Option Int → Option Int → Hp → VK → Prop) : Prop :=
  ∀ (pins : List (Addr × Obj)) (s : Shared) (σ : St) (H : Hp) (x : V) (v vl vu : Value) (lo hi : Option Int) (sl : Addr) (Q : VK), Inv X pins σ H s → RelV x v → s.heap.IsSliceOf sl vl vu .none → IsPart vl lo → IsPart vu hi → r x lo hi H Q →
    ∃ T id, typeLookup (.type T) "__getitem__" = pure (some (.builtin id)) ∧ s.TypeIs v T ∧ wpAny (model X.prog X.w) X.A (getItem v (.ref sl)) (EP X pins σ Q) X.xe s
noncomputable def tSl (r : V → Option Int → Option Int → Hp → VK → Prop) (te : TE) (tl th : TO) : TE := fun σ H Q => te σ H fun x H1 => tl σ H1 fun l H2 => th σ H2 fun u H3 => r x l u H3 Q
/-- a[lo:hi], any a -/
theorem pe_slice {r : V → Option Int → Option Int → Hp → VK → Prop} (hr : SlR X r) (he : PE X e te) (hl : PO X lo tl) (hu : PO X hi th) : PE X (.Subscript e (.Slice lo hi none p2) pos) (tSl r te tl th) := by
  intro pins s σ H Q I h
  refine Subscript_ (thn (he pins s σ H _ I h) fun v s1 hz27 => ?_)
  obtain ⟨x, H1, I1, r1, q1⟩ := hz27
  refine wpAny_Slice (thn (hl pins s1 σ H1 _ I1 q1) fun vl s2 hz28 => ?_)
  obtain ⟨l, H2, I2, pl, q2⟩ := hz28
  refine thn (hu pins s2 σ H2 _ I2 q2) fun vu s3 hz29 => ?_
  obtain ⟨u, H3, I3, pu, q3⟩ := hz29
  rw [evalPart_none]
  refine wpAny_pure ?_
  have I4 : Inv X pins σ H3 { s3 with heap := s3.heap.push { cls := .type "slice", data := .fields #[vl, vu, .none] } } := I3.kept (t' := s3.toks) fun b ob q => Heap.get?_push_of_some _ q
  obtain ⟨T, id, hT, ht, hg⟩ := hr pins { s3 with heap := s3.heap.push { cls := .type "slice", data := .fields #[vl, vu, .none] } } σ H3 x v vl vu l u s3.heap.objs.size Q I4 r1 (Heap.IsSliceOf.new ..) pl pu q3
  show wpAny (model X.prog X.w) X.A (subscriptTail e (.Slice lo hi none p2) v (.ref s3.heap.objs.size)) (EP X pins σ Q) X.xe { s3 with heap := s3.heap.push { cls := .type "slice", data := .fields #[vl, vu, .none] } }
  exact tail_any (ops := [.ref s3.heap.objs.size, v]) ht hT hg (by with_unfolding_all rfl)

/-- the items of xs[lo:hi] -/
noncomputable def cutV (xs : List V) (lo hi : Option Int) : List V := (xs.drop (HT.sIx xs.length 0 lo)).take (HT.sIx xs.length xs.length hi - HT.sIx xs.length 0 lo)
theorem cutV_length (xs : List V) (lo hi : Option Int) : (cutV xs lo hi).length ≤ xs.length := by
  unfold cutV
  rw [List.length_take, List.length_drop]
  omega
/-- t[lo:hi], not the whole of it (the whole would be t itself) -/
noncomputable def rSlT (K : PySem.W.Frag) : V → Option Int → Option Int → Hp → VK → Prop := fun x lo hi H Q => ∃ a xs, x = .ref a ∧ SqT K H a xs ∧
  ¬ (HT.sIx xs.length 0 lo = 0 ∧ HT.sIx xs.length xs.length hi = xs.length) ∧ ∀ p, H p = none → Q (.ref p) (upd H p (.tup (cutV xs lo hi)))
/-! ### t < u, t + u -/
noncomputable def rLtT (K : PySem.W.Frag) : R2 := fun x y H Q => ∃ a b ns ms, x = .ref a ∧ y = .ref b ∧ SqT K H a (ns.map V.int) ∧ SqT K H b (ms.map V.int) ∧ Q (.bl (HT.lexLt ns ms)) H
/-- t + u, t not empty: u empty gives t itself -/
noncomputable def rCatT (K : PySem.W.Frag) : R2 := fun x y H Q => ∃ a b xs ys, x = .ref a ∧ y = .ref b ∧ SqT K H a xs ∧ SqT K H b ys ∧ xs ≠ [] ∧ xs.length + ys.length ≤ sizeLine ∧
  (ys = [] → Q (.ref a) H) ∧ (ys ≠ [] → ∀ p, H p = none → Q (.ref p) (upd H p (.tup (xs ++ ys))))
end
end L2

namespace L2
open PySem PySem.Spec PyProof.Rows

/-! ### places -/
/-- the place that an index of any sign means -/
noncomputable def ixN (n : Nat) (i : Int) : Option Nat := if 0 ≤ i then (if i < n then some i.toNat else none) else if -(n : Int) ≤ i then some (i + n).toNat else none
noncomputable def atI {α : Type} (xs : List α) (i : Int) : Option α := (ixN xs.length i).bind fun j => xs[j]?
theorem ixN_seq {n : Nat} {i : Int} {j : Nat} (h : ixN n i = some j) : seqIndex? i n = some j ∧ j < n ∧ -(n : Int) ≤ i ∧ i < n := by
  unfold ixN at h
  by_cases h0 : 0 ≤ i
  · rw [if_pos h0] at h
    by_cases h1 : i < n
    · rw [if_pos h1] at h
      have e : i.toNat = j := Option.some.inj h
      exact ⟨by rw [seqIndex_of h0 h1, e], by omega, by omega, h1⟩
    · rw [if_neg h1] at h; cases h
  · rw [if_neg h0] at h
    by_cases h1 : -(n : Int) ≤ i
    · rw [if_pos h1] at h
      have e : (i + n).toNat = j := Option.some.inj h
      exact ⟨by rw [seqIndex_neg (by omega) h1, e], by omega, h1, by omega⟩
    · rw [if_neg h1] at h; cases h
theorem atI_get {α : Type} {xs : List α} {i : Int} {v : α} (h : atI xs i = some v) : ∃ j, seqIndex? i xs.length = some j ∧ xs[j]? = some v ∧ j < xs.length ∧ -(xs.length : Int) ≤ i ∧ i < xs.length := by
  unfold atI at h
  cases e : ixN xs.length i with
  | none => rw [e] at h; cases h
  | some j =>
    rw [e] at h
    obtain ⟨h1, h2, h3, h4⟩ := ixN_seq e
    exact ⟨j, h1, h, h2, h3, h4⟩
theorem atI_nat {α : Type} {xs : List α} {j : Nat} {v : α} (h : xs[j]? = some v) : atI xs (j : Int) = some v := by
  have hj : j < xs.length := (List.getElem?_eq_some_iff.mp h).1
  have e : ixN xs.length (j : Int) = some j := by
    unfold ixN
    rw [if_pos (by omega), if_pos (by omega)]; simp
  unfold atI; rw [e]; exact h
/-! ### what may be subscripted -/
/-- what stands as an index of a plain subscript -/
noncomputable def PlainIx (b : Expr) : Prop := ∀ o i, subscripted b false o i = operate [o, i] (getItem o i)
/-- a subscript by values -/
noncomputable def IxR (X : Cx) (r : R2) : Prop :=
  ∀ (value slice : Expr) (pins : List (Addr × Obj)) (s : Shared) (σ : St) (H : Hp) (x y : V) (v u : Value) (Q : VK), Inv X pins σ H s → RelV x v → RelV y u → r x y H Q →
    subscripted slice false v u = operate [v, u] (getItem v u) → wpAny (model X.prog X.w) X.A (subscriptTail value slice v u) (EP X pins σ Q) X.xe s
/-- a call of a builtin's method by values: the receiver, the arguments -/
noncomputable def MtR (X : Cx) (id : String) (r : V → List V → Hp → VK → Prop) : Prop :=
  ∀ (pins : List (Addr × Obj)) (s : Shared) (σ : St) (H : Hp) (x : V) (xs : List V) (v : Value) (us : List Value) (Q : VK), Inv X pins σ H s → RelV x v → Vals xs us → r x xs H Q →
    wpAny (model X.prog X.w) X.A (call (.builtin id) (v :: us)) (EP X pins σ Q) X.xe s
section
variable {X : Cx} {a b : Expr} {ta tb : TE} {pos : Pos}
theorem IxR.or {r r' : R2} (h : IxR X r) (h' : IxR X r') : IxR X (fun x y H Q => r x y H Q ∨ r' x y H Q) := by
  intro value slice pins s σ H x y v u Q I rx ry q hs
  rcases q with q | q
  · exact h value slice pins s σ H x y v u Q I rx ry q hs
  · exact h' value slice pins s σ H x y v u Q I rx ry q hs
/-- a[b] -/
theorem pe_ix {r : R2} (hr : IxR X r) (ha : PE X a ta) (hb : PE X b tb) (hs : PlainIx b) : PE X (.Subscript a b pos) (tOp r ta tb) := by
  intro pins s σ H Q I h
  exact Subscript_ (binT ha hb I h fun v u s2 x y H2 I2 rx ry q => hr a b pins s2 σ H2 x y v u Q I2 rx ry q (hs _ _))

noncomputable def rIxL (K : PySem.W.Frag) : R2 := fun x y H Q => ∃ p xs i v, x = .ref p ∧ y = .int i ∧ SqL K H p xs ∧ atI xs i = some v ∧ Q v H
noncomputable def rIxT (K : PySem.W.Frag) : R2 := fun x y H Q => ∃ p xs i v, x = .ref p ∧ y = .int i ∧ SqT K H p xs ∧ atI xs i = some v ∧ Q v H
noncomputable def rIxS : R2 := fun x y H Q => ∃ z i c, x = .str z ∧ y = .int i ∧ z.length ≤ sizeLine ∧ atI z.cps.toList i = some c ∧ Q (.str ⟨#[c]⟩) H
theorem ix_list : IxR X (rIxL X.K) := by
  intro value slice pins s σ H x y v u Q I rx ry h hs
  obtain ⟨p, xs, i, z, rfl, rfl, hq, he, q⟩ := h
  cases rx
  obtain ⟨t, rfl⟩ := ry
  obtain ⟨its, r, pl, hz⟩ := I.list hq
  obtain ⟨j, h1, h2, h3, h4, h5⟩ := atI_get he
  obtain ⟨w, ew, rw'⟩ := r.get h2
  have hl := r.length
  have hn := line63
  have fin : EP X pins σ Q w s := ⟨z, H, I, rw', q⟩
  by_cases h0 : 0 ≤ i
  · have hj : i.toNat = j := by
      rw [seqIndex_of h0 h5] at h1
      exact Option.some.inj h1
    exact item_listR pl.isList h0 (by omega) (by rw [hj]; simpa using ew) fin hs
  · have hj : (i + (its.toArray.size : Int)).toNat = j := by
      rw [seqIndex_neg (by omega) h4] at h1
      rw [List.size_toArray, ← hl]
      exact Option.some.inj h1
    exact subscriptTail_builtinR (x := w) pl.isList.typeIs slot_list_getitem.lookup
      (wpAny_getItem_list_neg (Q := fun r s' => r = w ∧ EP X pins σ Q r s') pl.isList (by omega) (by rw [List.size_toArray] <;> omega) (by omega) (by rw [hj]; simpa using ew) ⟨rfl, fin⟩) hs
theorem ix_tup : IxR X (rIxT X.K) := by
  intro value slice pins s σ H x y v u Q I rx ry h hs
  obtain ⟨p, xs, i, z, rfl, rfl, hq, he, q⟩ := h
  cases rx
  obtain ⟨t, rfl⟩ := ry
  obtain ⟨its, r, pl, hz⟩ := I.tuple hq
  obtain ⟨j, h1, h2, h3, h4, h5⟩ := atI_get he
  obtain ⟨w, ew, rw'⟩ := r.get h2
  have hl := r.length
  have hn := line63
  have fin : EP X pins σ Q w s := ⟨z, H, I, rw', q⟩
  exact subscriptTail_builtinR (x := w) pl.typeIs slot_tuple_getitem.lookup
    (getItem_tuple (j := j) (Q := fun r s' => r = w ∧ EP X pins σ Q r s') pl (by omega) (by omega) (by rw [List.size_toArray, ← hl]; exact h1) (by simpa using ew) ⟨rfl, fin⟩) hs
theorem ix_str : IxR X rIxS := by
  intro value slice pins s σ H x y v u Q I rx ry h hs
  obtain ⟨z, i, c, rfl, rfl, hz, he, q⟩ := h
  obtain ⟨t, rfl⟩ := rx
  obtain ⟨t', rfl⟩ := ry
  obtain ⟨j, h1, h2, h3, h4, h5⟩ := atI_get he
  have hl : z.cps.toList.length = z.length := by simp [Str.length]
  rw [hl] at h1 h4 h5
  have hn := line63
  exact tail_any (typeIs_str s z t) slot_str_getitem.lookup (getItem_str (c := c) (by
    have e1 : decide (i < -(2 ^ 63 : Int)) = false := decide_eq_false (by omega)
    have e2 : decide (i ≥ 2 ^ 63) = false := decide_eq_false (by omega)
    rw [e1, e2, Bool.or_false]) (by rw [h1]; simpa using h2) ⟨.str ⟨#[c]⟩, H, I.tok _, ⟨_, rfl⟩, q⟩) hs
/-- list, tuple or str -/
noncomputable def rIx (K : PySem.W.Frag) : R2 := fun x y H Q => rIxL K x y H Q ∨ rIxT K x y H Q ∨ rIxS x y H Q
/-! ### xs[i] = v, any sign -/
/-- the list's object behind a store -/
theorem mapSeq_set (its : List Value) (n j : Nat) (u : Value) : Obj.mapSeq (·.setIfInBounds j u) { cls := .type "list", data := .seq its.toArray n } = { cls := .type "list", data := .seq (its.set j u).toArray n } := by
  simp [Obj.mapSeq]
theorem Inv.lst {pins : List (Addr × Obj)} {σ : St} {H : Hp} {s : Shared} {p : Addr} {xs : List V} (I : Inv X pins σ H s) (h : H p = some (.lst xs)) :
    ∃ (its : List Value) (n : Nat), Vals xs its ∧ s.heap.get? p = some { cls := .type "list", data := .seq its.toArray n } ∧ xs.length ≤ sizeLine := by
  obtain ⟨z, its, n, r, e⟩ := I.hok p _ h
  exact ⟨its, n, r, e, z⟩
/-- the list at p is written by an update of its object -/
theorem Inv.lstUpd {pins : List (Addr × Obj)} {σ : St} {H : Hp} {s : Shared} {p : Addr} {xs ys : List V} {its its' : List Value} {n n' : Nat} {f : Obj → Obj} (I : Inv X pins σ H s) (h : H p = some (.lst xs))
    (ho : s.heap.get? p = some { cls := .type "list", data := .seq its.toArray n }) (hf : f { cls := .type "list", data := .seq its.toArray n } = { cls := .type "list", data := .seq its'.toArray n' }) (r : Vals ys its') (hz : ys.length ≤ sizeLine) (t : Nat) :
    Inv X pins σ (upd H p (.lst ys)) { s with heap := s.heap.update p f, toks := t } := by
  have e : (s.heap.update p f).get? p = some { cls := .type "list", data := .seq its'.toArray n' } := by
    rw [Heap.get?_update_self f ho (by rw [hf] <;> rfl), hf]
  refine I.write (x := p) (e := p) (by rw [h]; trivial) (.inl rfl) (fun b u hb q => (Heap.get?_update_other _ _ (Ne.symm hb)).trans q) ⟨_, e⟩ ?_
  exact ⟨hz, its', n', r, e⟩
noncomputable def rSetL : V → V → V → Hp → (Hp → Prop) → Prop := fun o i v H Q => ∃ p xs k j, o = .ref p ∧ i = .int k ∧ H p = some (.lst xs) ∧ ixN xs.length k = some j ∧ Q (upd H p (.lst (xs.set j v)))
theorem set_list : PSet X rSetL := by
  intro pins s σ H o i v ov iv u Q I ro ri rv h
  obtain ⟨p, xs, k, j, rfl, rfl, hp, hj, q⟩ := h
  cases ro
  obtain ⟨t, rfl⟩ := ri
  obtain ⟨its, n, r, ho, hz⟩ := I.lst hp
  obtain ⟨h1, h2, h3, h4⟩ := ixN_seq hj
  have hl := r.length
  have hn := line63
  have I' : Inv X pins σ (upd H p (.lst (xs.set j v))) { s with heap := s.heap.update p (Obj.mapSeq (·.setIfInBounds j u)) } :=
    I.lstUpd hp ho (mapSeq_set its n j u) (r.set rv j) (by rw [List.length_set]; exact hz) s.toks
  by_cases h0 : 0 ≤ k
  · have hk : k.toNat = j := by
      rw [seqIndex_of h0 h4] at h1
      exact Option.some.inj h1
    exact PySem.W.ki_setAt ho h0 (by omega) (by rw [List.size_toArray, ← hl]; exact h4) (by rw [hk]; exact ⟨_, I', q⟩)
  · have hk : (k + (its.toArray.size : Int)).toNat = j := by
      rw [seqIndex_neg (by omega) h3] at h1
      rw [List.size_toArray, ← hl]
      exact Option.some.inj h1
    exact PySem.W.ki_setBack ho (by omega) (by rw [List.size_toArray, ← hl]; exact h3) (by omega) (by rw [hk]; exact ⟨_, I', q⟩)

/-! ### slices -/
theorem slice_bounds (lo hi : Option Int) (n : Nat) : (sliceBounds lo hi none n).1 = ((HT.sIx n 0 lo : Nat) : Int) ∧ (sliceBounds lo hi none n).2.1 = ((HT.sIx n n hi : Nat) : Int) ∧ (sliceBounds lo hi none n).2.2 = 1 := by
  refine ⟨?_, ?_, rfl⟩
  · cases lo with
    | none => simp [sliceBounds, HT.sIx]
    | some i =>
      simp only [sliceBounds, HT.sIx, Option.getD_none, show (1 : Int) > 0 by decide, if_true]
      by_cases h : i < 0
      · simp only [h, if_true] <;> omega
      · simp only [h, if_false] <;> omega
  · cases hi with
    | none => simp [sliceBounds, HT.sIx]
    | some i =>
      simp only [sliceBounds, HT.sIx, Option.getD_none, show (1 : Int) > 0 by decide, if_true]
      by_cases h : i < 0
      · simp only [h, if_true] <;> omega
      · simp only [h, if_false] <;> omega
theorem slicePick_cut (its : List Value) (lo hi : Option Int) : slicePick its.toArray lo hi none = ((its.drop (HT.sIx its.length 0 lo)).take (HT.sIx its.length its.length hi - HT.sIx its.length 0 lo)).toArray := by
  obtain ⟨h1, h2, h3⟩ := slice_bounds lo hi its.toArray.size
  unfold slicePick
  rw [h1, h2, h3]
  simp only [sliceRange_one, pick_run, List.size_toArray] <;> rfl
/-- xs[lo:hi] of a list: a new list -/
noncomputable def rSlL (K : PySem.W.Frag) : V → Option Int → Option Int → Hp → VK → Prop := fun x lo hi H Q => ∃ a xs, x = .ref a ∧ SqL K H a xs ∧ ∀ p, H p = none → Q (.ref p) (upd H p (.lst (cutV xs lo hi)))
theorem sl_list : SlR X (rSlL X.K) := by
  intro pins s σ H x v vl vu lo hi sl Q I rx hs pl pu h
  obtain ⟨a, xs, rfl, hx, q⟩ := h
  cases rx
  obtain ⟨its, r, ht, hz⟩ := I.list hx
  have hlen := r.length
  refine ⟨"list", _, slot_list_getitem.lookup, ht.isList.typeIs, ?_⟩
  refine wpAny_getItem_list_slice ht.isList hs pl pu .none (by simp) ?_ (by rw [List.size_toArray] <;> omega)
  rw [slicePick_cut, ← hlen]
  refine ⟨.ref s.heap.objs.size, _, I.laid (t' := s.toks) (o := .lst (cutV xs lo hi)) (fun b ob q => Heap.get?_push_of_some _ q) (Nat.le_refl _) ?_, rfl, q _ (I.hok.fresh (Nat.le_refl _))⟩
  exact ⟨Nat.le_trans (cutV_length xs lo hi) hz, _, 0, (r.drop (HT.sIx xs.length 0 lo)).take (HT.sIx xs.length xs.length hi - HT.sIx xs.length 0 lo), Heap.get?_push_size _ rfl⟩

/-! ### in, not in: flat items -/
noncomputable def flatV : V → Bool
  | .non => true
  | .bl _ => true
  | .int _ => true
  | .str _ => true
  | _ => false
/-- == of flat values -/
noncomputable def eqV : V → V → Bool
  | .non, .non => true
  | .bl a, .bl b => a == b
  | .bl a, .int b => (if a then 1 else 0) == b
  | .int a, .bl b => a == (if b then 1 else 0)
  | .int a, .int b => a == b
  | .str a, .str b => a == b
  | _, _ => false
theorem eqAt_V {A : Around} {s : Shared} {y x : V} {u v : Value} (ry : RelV y u) (rx : RelV x v) (fy : flatV y = true) (fx : flatV x = true) : SeqAt.EqAt A s u v (eqV y x) := by
  cases y with
  | non =>
    cases ry
    cases x with
    | non => cases rx; exact SeqAt.EqAt.same _
    | bl b => cases rx; exact SeqAt.EqAt.none_bool b
    | int b => obtain ⟨t, rfl⟩ := rx; exact SeqAt.EqAt.none_int b t
    | str b => obtain ⟨t, rfl⟩ := rx; exact SeqAt.EqAt.none_str b t
    | _ => exact absurd (show false = true from fx) Bool.false_ne_true
  | bl a =>
    cases ry
    cases x with
    | non => cases rx; exact SeqAt.EqAt.bool_none a
    | bl b => cases rx; exact SeqAt.EqAt.bool_bool a b
    | int b => obtain ⟨t, rfl⟩ := rx; exact SeqAt.EqAt.bool_int a b t
    | str b => obtain ⟨t, rfl⟩ := rx; exact SeqAt.EqAt.bool_str a b t
    | _ => exact absurd (show false = true from fx) Bool.false_ne_true
  | int a =>
    obtain ⟨t', rfl⟩ := ry
    cases x with
    | non => cases rx; exact SeqAt.EqAt.int_none a t'
    | bl b => cases rx; exact SeqAt.EqAt.int_bool a t' b
    | int b => obtain ⟨t, rfl⟩ := rx; exact SeqAt.EqAt.int_int a t' b t
    | str b => obtain ⟨t, rfl⟩ := rx; exact SeqAt.EqAt.int_str a t' b t
    | _ => exact absurd (show false = true from fx) Bool.false_ne_true
  | str a =>
    obtain ⟨t', rfl⟩ := ry
    cases x with
    | non => cases rx; exact SeqAt.EqAt.str_none a t'
    | bl b => cases rx; exact SeqAt.EqAt.str_bool a t' b
    | int b => obtain ⟨t, rfl⟩ := rx; exact SeqAt.EqAt.str_int a t' b t
    | str b => obtain ⟨t, rfl⟩ := rx; exact SeqAt.EqAt.str_str a t' b t
    | _ => exact absurd (show false = true from fx) Bool.false_ne_true
  | _ => exact absurd (show false = true from fy) Bool.false_ne_true
/-- the items' answers, read off the values (a value's own answer does not lean on its token) -/
noncomputable def eqU (x : V) (u : Value) : Bool := match u with
  | .none => eqV .non x
  | .bool b => eqV (.bl b) x
  | .int i _ => eqV (.int i) x
  | .str z _ => eqV (.str z) x
  | _ => false
noncomputable def inV (x : V) (xs : List V) : Bool := xs.any fun y => eqV y x
/-- x in a list or tuple of flat items -/
noncomputable def rIn (K : PySem.W.Frag) (neg : Bool) : R2 := fun x y H Q => ∃ p xs, y = .ref p ∧ (SqL K H p xs ∨ SqT K H p xs) ∧ flatV x = true ∧ xs.all flatV = true ∧ Q (.bl (if neg then !inV x xs else inV x xs)) H
/-! ### len, list(x), tuple(x) of any list or tuple that is read -/
theorem call_list_of : CallR X (.type "list") (fun xs H Q => ∃ p ys, xs = [.ref p] ∧ (SqL X.K H p ys ∨ SqT X.K H p ys) ∧ ∀ l, H l = none → Q (.ref l) (upd H l (.lst ys))) := by
  intro pins s σ H xs us Q I r h
  obtain ⟨p, ys, rfl, hq, q⟩ := h
  obtain ⟨u, rfl, rx⟩ := vals1 r
  cases rx
  have fin : ∀ (its : List Value), Vals ys its → ys.length ≤ sizeLine → ∀ (h' : Heap) (c' : Nat), (∀ b o', s.heap.get? b = some o' → h'.get? b = some o') →
      h'.get? s.heap.objs.size = some { cls := .type "list", dict := none, data := .seq its.toArray c', slots := #[] } → EP X pins σ Q (.ref s.heap.objs.size) { s with heap := h' } := fun its r' hz h' c' kp e =>
    ⟨.ref s.heap.objs.size, _, I.laid (t' := s.toks) kp (Nat.le_refl _) (show ObjOk X.prog X.w _ h' _ (.lst ys) from ⟨hz, its, c', r', e⟩), rfl, q _ (I.hok.fresh (Nat.le_refl _))⟩
  rcases hq with hq | hq
  · obtain ⟨its, r', pl, hz⟩ := I.list hq
    have hlen := r'.length
    obtain ⟨o, ho, hc, n, hd⟩ := pl.isList
    exact call_list_seq p (.inl rfl) ho hc hd (fun h' c' kp e => fin its r' hz h' c' kp e) (by simp only [List.size_toArray] <;> omega)
  · obtain ⟨its, r', pl, hz⟩ := I.tuple hq
    have hlen := r'.length
    obtain ⟨o, ho, hc, n, hd⟩ := pl
    exact call_list_seq p (.inr rfl) ho hc hd (fun h' c' kp e => fin its r' hz h' c' kp e) (by simp only [List.size_toArray] <;> omega)
/-! ### the call of a builtin's method: o.m(..) -/
/-- the value is of that builtin type -/
noncomputable def tyV (K : PySem.W.Frag) (T : String) (x : V) (H : Hp) : Prop := match x with
  | .str _ => T = "str"
  | .int _ => T = "int"
  | .ref p => (T = "list" ∧ ∃ xs, SqL K H p xs) ∨ (T = "tuple" ∧ ∃ o, K.lookup p = some o ∧ o.cls = .type "tuple" ∧ o.dict = none) ∨
      (T = "dict" ∧ ((∃ kvs, H p = some (.dK kvs)) ∨ ∃ kvs, H p = some (.dT kvs))) ∨ (T = "set" ∧ ∃ S n, H p = some (.set S n))
  | _ => False
theorem tyV_is {pins : List (Addr × Obj)} {σ : St} {H : Hp} {s : Shared} {T : String} {x : V} {v : Value} (I : Inv X pins σ H s) (r : RelV x v) (ty : tyV X.K T x H) :
    s.TypeIs v T ∧ ∀ a, v = .ref a → ∃ ob, s.heap.get? a = some ob ∧ ob.dict = none := by
  cases x with
  | str z =>
    obtain ⟨t, rfl⟩ := r
    cases (show T = "str" from ty)
    exact ⟨typeIs_str s z t, fun _ e => nomatch e⟩
  | int i =>
    obtain ⟨t, rfl⟩ := r
    cases (show T = "int" from ty)
    exact ⟨typeIs_int s i t, fun _ e => nomatch e⟩
  | ref p =>
    cases r
    rcases ty with ⟨rfl, xs, hq⟩ | ⟨rfl, o, hk, hc, hd⟩ | ⟨rfl, hk⟩ | ⟨rfl, S, n, hk⟩
    · obtain ⟨its, _, pl, _⟩ := I.list hq
      refine ⟨pl.isList.typeIs, fun a e => ?_⟩
      cases e
      obtain ⟨o, n, e, c, hd, _⟩ := pl
      exact ⟨o, e, hd⟩
    · refine ⟨⟨o, I.kIn p o hk, hc⟩, fun a e => ?_⟩
      cases e
      exact ⟨o, I.kIn _ o hk, hd⟩
    · have z : ∃ o, s.heap.get? p = some o ∧ o.ExactDict := by
        rcases hk with ⟨kvs, hk⟩ | ⟨kvs, hk⟩
        · obtain ⟨_, _, _, _, o, _, _, e, ex, _⟩ := I.hok p _ hk
          exact ⟨o, e, ex⟩
        · obtain ⟨_, _, _, _, o, _, _, e, ex, _⟩ := I.hok p _ hk
          exact ⟨o, e, ex⟩
      obtain ⟨o, e, ex⟩ := z
      refine ⟨⟨o, e, ex.1⟩, fun a e2 => ?_⟩
      cases e2
      exact ⟨o, e, ex.2.1⟩
    · obtain ⟨o, _, _, _, e, ex, _⟩ := I.hok p _ hk
      refine ⟨⟨o, e, ex.1⟩, fun a e2 => ?_⟩
      cases e2
      exact ⟨o, e, ex.2.1⟩
  | _ => exact False.elim ty
noncomputable def tBM0 (K : PySem.W.Frag) (T : String) (r : V → List V → Hp → VK → Prop) (to : TE) : TE := fun σ H Q => to σ H fun x H1 => tyV K T x H1 ∧ r x [] H1 Q
noncomputable def tBM (K : PySem.W.Frag) (T : String) (r : V → List V → Hp → VK → Prop) (to : TE) (t : TA) : TE := fun σ H Q => to σ H fun x H1 => tyV K T x H1 ∧ t σ H1 fun xs H2 => r x xs H2 Q
variable {o e : Expr} {es : List Expr} {to : TE} {t : TA} {name : Str} {apos cpos : Pos} {T id : String} {r : V → List V → Hp → VK → Prop}
theorem pe_bm (pa : PlainAttrs T) (slot : Slot T name id) (hty : typeOf (.builtin id) = pure (.type "method_descriptor")) (hm : MtR X id r) (ho : PE X o to) (ha : PA X (e :: es) t)
    (hbase : attributeBase o name X.env (eval o X.env) = eval o X.env := by rfl)
    (hfew : ((backTo cpos (starEach (e :: es) X.env)).all (fun x => !x.1) && (backToKw cpos (keywordEach [] X.env)).all (fun x => x.1.isSome)
      && decide ((e :: es).length + ([] : List Keyword).length + (if ([] : List Keyword).isEmpty then 0 else 1) < 30)) = true := by rfl)
    (hline : (apos.endLine == cpos.line) = true := by rfl) (hs : starEach (e :: es) X.env = (false, eval e X.env) :: starEach es X.env := by rfl) (hplain : (backTo cpos (starEach es X.env)).any (·.1) = false := by rfl) :
    PE X (.Call (.Attribute o name apos) (e :: es) [] cpos) (tBM X.K T r to t) := by
  intro pins s σ H Q I h
  refine wpAny_Call_method_late hbase hfew hline rfl (thn (ho pins s σ H _ I h) fun v s1 hz30 => ?_)
  obtain ⟨x, H1, I1, r1, ty, q1⟩ := hz30
  obtain ⟨h1, h2⟩ := tyV_is I1 r1 ty
  refine ⟨T, id, pa, slot, hty, h1, h2, ?_⟩
  have hA := ha cpos pins s1 σ H1 _ I1 q1
  rw [hs] at hA ⊢
  refine Calls.callWith_builtin (by show (false || (backTo cpos (starEach es X.env)).any (·.1)) = false; rw [hplain] <;> rfl) (Calls.evalArgs_plain ?_)
  exact thn hA fun us s2 ⟨vs, H2, I2, r2, q2⟩ => hm pins s2 σ H2 x vs v us Q I2 r1 r2 q2
/- xs.append(e), list.index on a module's tuple .. are MtR facts of 06m -/
end
end L2

namespace L2
open PySem PySem.Spec PyProof.Rows

noncomputable def MtM (X : Cx) (id : String) (r : V → List V → Hp → VK → Prop) : Prop :=
  ∀ (pins : List (Addr × Obj)) (s : Shared) (σ : St) (H : Hp) (x : V) (xs : List V) (v : Value) (us : List Value) (Q : VK), Inv X pins σ H s → RelV x v → Vals xs us → r x xs H Q →
    wpAny (model X.prog X.w) X.A (call (.builtin id) (v :: us)) (EP X pins σ Q) X.xe s

/-! ### lists of values -/
theorem Vals.one {x : V} {us : List Value} (h : Vals [x] us) : ∃ u, us = [u] ∧ RelV x u := by
  cases h with
  | cons r k => cases k; exact ⟨_, rfl, r⟩
theorem Vals.two {x y : V} {us : List Value} (h : Vals [x, y] us) : ∃ u v, us = [u, v] ∧ RelV x u ∧ RelV y v := by
  cases h with
  | cons r k => cases k with
    | cons q m => cases m; exact ⟨_, _, rfl, r, q⟩
section
variable {X : Cx} {pins : List (Addr × Obj)} {σ : St} {H : Hp} {s : Shared} {l b : Addr} {xs ys zs : List V}

/-! ### the two steps: a tracked list is rewritten, a new list is laid -/
theorem Inv.lset {its its' : List Value} {n : Nat} {f : Array Value → Array Value} {t' : Nat} (I : Inv X pins σ H s) (hH : H l = some (.lst xs))
    (e : s.heap.get? l = some { cls := .type "list", data := .seq its.toArray n }) (hf : f its.toArray = its'.toArray) (hv : Vals ys its') (hz : ys.length ≤ sizeLine) :
    Inv X pins σ (upd H l (.lst ys)) { s with heap := s.heap.update l (Obj.mapSeq f), toks := t' } := by
  have q := PySem.IsL.update e f
  rw [hf] at q
  refine I.write (x := l) (e := l) (by rw [hH]; exact trivial) (.inl rfl) (fun b' u hb hu => (Heap.get?_update_other s.heap (Obj.mapSeq f) (Ne.symm hb)).trans hu) ⟨_, q⟩ ?_
  exact ⟨hz, its', _, hv, q⟩
theorem Inv.lnew {its : List Value} {t' : Nat} (I : Inv X pins σ H s) (hv : Vals ys its) (hz : ys.length ≤ sizeLine) :
    Inv X pins σ (upd H s.heap.objs.size (.lst ys)) { s with heap := s.heap.push { cls := .type "list", data := .seq its.toArray }, toks := t' } :=
  I.laid (fun _ _ q => Heap.get?_push_of_some _ q) (Nat.le_refl _) ⟨hz, its, 0, hv, Heap.get?_push_size _ rfl⟩
theorem Inv.fresh (I : Inv X pins σ H s) : H s.heap.objs.size = none := I.hok.fresh (Nat.le_refl _)
theorem Inv.lstM (I : Inv X pins σ H s) (hH : H l = some (.lst xs)) : xs.length ≤ sizeLine ∧ ∃ (its : List Value) (n : Nat), Vals xs its ∧ xs.length = its.length ∧ s.heap.get? l = some { cls := .type "list", data := .seq its.toArray n } := by
  obtain ⟨z, its, n, r, e⟩ := I.hok l _ hH
  exact ⟨z, its, n, r, r.length, e⟩

end

section
variable {X : Cx}

/-! ### methods -/
noncomputable def rAppend : V → List V → Hp → VK → Prop := fun x vs H Q => ∃ l xs y, x = .ref l ∧ vs = [y] ∧ H l = some (.lst xs) ∧ xs.length < sizeLine ∧ Q .non (upd H l (.lst (xs ++ [y])))
theorem mt_append : MtM X "list.append" rAppend := by
  intro pins s σ H x vs v us Q I rx rv h
  obtain ⟨l, xs, y, rfl, rfl, hH, hz, q⟩ := h
  cases rx
  obtain ⟨u, rfl, ru⟩ := rv.one
  obtain ⟨z, its, n, r, hl, e⟩ := I.lstM hH
  refine call_meets F.slot_list_append ⟨_, e, rfl⟩ F.entry_list_append (F.args_list_append_2 _ _) (PySem.list_append l its.toArray n u (by rw [List.size_toArray]; omega)) ⟨e, ?_⟩
  refine ⟨.non, _, I.lset (its' := its ++ [u]) hH e (by simp) (r.append (.cons ru .nil)) ?_, rfl, q⟩
  rw [List.length_append, List.length_singleton]
  omega

noncomputable def rExtend : V → List V → Hp → VK → Prop := fun x vs H Q => ∃ l b xs zs, x = .ref l ∧ vs = [.ref b] ∧ H l = some (.lst xs) ∧ H b = some (.lst zs) ∧ xs.length + zs.length ≤ sizeLine ∧ Q .non (upd H l (.lst (xs ++ zs)))
noncomputable def rPop : V → List V → Hp → VK → Prop := fun x vs H Q => ∃ l xs y, x = .ref l ∧ vs = [] ∧ H l = some (.lst xs) ∧ xs[xs.length - 1]? = some y ∧ Q y (upd H l (.lst xs.dropLast))
noncomputable def rPopAt : V → List V → Hp → VK → Prop := fun x vs H Q => ∃ l xs i k y, x = .ref l ∧ vs = [.int i] ∧ H l = some (.lst xs) ∧ -(2 ^ 63) ≤ i ∧ i < 2 ^ 63 ∧ seqIndex? i xs.length = some k ∧ xs[k]? = some y ∧ Q y (upd H l (.lst (xs.eraseIdx k)))
noncomputable def rReverse : V → List V → Hp → VK → Prop := fun x vs H Q => ∃ l xs, x = .ref l ∧ vs = [] ∧ H l = some (.lst xs) ∧ Q .non (upd H l (.lst xs.reverse))
noncomputable def rClear : V → List V → Hp → VK → Prop := fun x vs H Q => ∃ l xs, x = .ref l ∧ vs = [] ∧ H l = some (.lst xs) ∧ Q .non (upd H l (.lst []))
/-! ### list + list, list += list, list * int -/
noncomputable def rCat : R2 := fun x y H Q => ∃ l b xs zs, x = .ref l ∧ y = .ref b ∧ H l = some (.lst xs) ∧ H b = some (.lst zs) ∧ xs.length + zs.length ≤ sizeLine ∧ ∀ p, H p = none → Q (.ref p) (upd H p (.lst (xs ++ zs)))
theorem op_cat : OpR X (binaryOp .Add) rCat := by
  intro pins s σ H x y v u Q I rx ry h
  obtain ⟨l, b, xs, zs, rfl, rfl, hH, hB, hz, q⟩ := h
  cases rx
  cases ry
  obtain ⟨z, its, n, r, hl, e⟩ := I.lstM hH
  obtain ⟨z2, its2, n2, r2, hl2, e2⟩ := I.lstM hB
  refine PySem.P.add_list e e2 ?_ (by rw [List.size_toArray, List.size_toArray]; omega)
  have ea : its.toArray ++ its2.toArray = (its ++ its2).toArray := by simp
  rw [ea]
  exact ⟨.ref _, _, I.lnew (t' := s.toks) (r.append r2) (by rw [List.length_append]; omega), rfl, q _ I.fresh⟩
/-- a list times an int (a negative one is nothing) -/
noncomputable def rRep : R2 := fun x y H Q => ∃ l k xs, x = .ref l ∧ y = .int k ∧ H l = some (.lst xs) ∧ -(2 ^ 63) ≤ k ∧ k < 2 ^ 63 ∧ xs.length * k.toNat ≤ sizeLine ∧
  ∀ p, H p = none → Q (.ref p) (upd H p (.lst (List.replicate k.toNat xs).flatten))
/-! ### del xs[i] -/
end

/-! ### xs[a:b] = ys -/
section
variable {prog : Program} {w : World} {A : Around} {E : Value → Shared → Prop} {s : Shared}
end

section
variable {X : Cx}
end
end L2

namespace L2
open PySem PySem.Spec PyProof.Rows

/-! ### lists of pairs as tables -/
section
variable {κ : Type} [DecidableEq κ]
noncomputable def valV (kvs : List (κ × V)) (k : κ) : Option V := (kvs.find? fun kv => decide (kv.1 = k)).map (·.2)
/-- in its place, or at the end -/
noncomputable def putK (kvs : List (κ × V)) (k : κ) (v : V) : List (κ × V) :=
  if (kvs.any fun kv => decide (kv.1 = k)) = true then kvs.map (fun kv => if kv.1 = k then (kv.1, v) else kv) else kvs ++ [(k, v)]
noncomputable def dropK (kvs : List (κ × V)) (k : κ) : List (κ × V) := kvs.filter fun kv => decide (kv.1 ≠ k)

end


/-! ### a tracked dict, its keys ints and texts or tuples of these -/
/-- raw entries of a dict with tuple keys -/
noncomputable abbrev KT (H : Hp) : List (List Key × V) → List (List Key × Addr × Value) → Prop := Paired fun p q => p.1 = q.1 ∧ H q.2.1 = some (.tup (p.1.map kV)) ∧ RelV p.2 q.2.2
section
variable {P : Program} {w : World} {H : Hp} {h : Heap} {a : Addr}
end

/-- what the dict at a holds at the key y -/
noncomputable def DGet (H : Hp) (a : Addr) (y : V) (r : Option V) : Prop :=
  (∃ kvs k, Rd H a (.dK kvs) ∧ y = kV k ∧ r = valV kvs k) ∨ ∃ kvs k b, Rd H a (.dT kvs) ∧ y = .ref b ∧ H b = some (.tup (k.map kV)) ∧ r = valV kvs k
/-- the heap behind a[y] = v -/
noncomputable def DPut (H : Hp) (a : Addr) (y v : V) (H' : Hp) : Prop :=
  (∃ kvs k, H a = some (.dK kvs) ∧ y = kV k ∧ kvs.length < sizeLine ∧ H' = upd H a (.dK (putK kvs k v))) ∨
  ∃ kvs k b, H a = some (.dT kvs) ∧ y = .ref b ∧ H b = some (.tup (k.map kV)) ∧ kvs.length < sizeLine ∧ H' = upd H a (.dT (putK kvs k v))
section
variable {X : Cx} {pins : List (Addr × Obj)} {σ : St} {H : Hp} {s : Shared} {a : Addr} {y v : V} {u r : Value} {o : Option V} {A : Around} {E : Value → Shared → Prop}

theorem Inv.big (I : Inv X pins σ H s) : sysModules < s.heap.objs.size := by
  have h : mainGlobals < s.heap.objs.size := (I.mod.glob.keeps I.bk).lt
  exact Nat.lt_trans (by decide) h

end

section
variable {X : Cx} {pins : List (Addr × Obj)} {σ : St} {H : Hp} {s : Shared} {a : Addr} {kvs : List (Key × V)} {k : Key} {u : Value} {A : Around} {E : Value → Shared → Prop}
end


/-! ### readings and rules -/
/-- the element of a subscription, not a slice -/
noncomputable def NoSl (i : Expr) : Prop := ∀ ov iv, subscripted i false ov iv = operate [ov, iv] (getItem ov iv)
/-- d[y] -/
noncomputable def tDGet (td ty : TE) : TE := fun σ H Q => td σ H fun x H1 => ty σ H1 fun y H2 => ∃ a v, x = .ref a ∧ DGet H2 a y (some v) ∧ Q v H2
/-- y in d, y not in d -/
noncomputable def tDIn (ty td : TE) : TE := fun σ H Q => ty σ H fun y H1 => td σ H1 fun x H2 => ∃ a o, x = .ref a ∧ DGet H2 a y o ∧ Q (.bl o.isSome) H2
noncomputable def tDNotIn (ty td : TE) : TE := fun σ H Q => ty σ H fun y H1 => td σ H1 fun x H2 => ∃ a o, x = .ref a ∧ DGet H2 a y o ∧ Q (.bl (!o.isSome)) H2
/-- d[y] = v -/
noncomputable def sDPut (td ty tv : TE) : TS := fun D σ H => tv σ H fun v H1 => td σ H1 fun x H2 => ty σ H2 fun y H3 => ∃ a H4, x = .ref a ∧ DPut H3 a y v H4 ∧ D.nx σ H4
/-- d[y] op= v -/
noncomputable def sDAug (td ty tv : TE) (rd : V → V → Hp → VK → Prop) : TS := fun D σ H => td σ H fun x H1 => ty σ H1 fun y H2 => ∃ a v, x = .ref a ∧ DGet H2 a y (some v) ∧
  tv σ H2 fun y2 H3 => rd v y2 H3 fun z H4 => ∃ H5, DPut H4 a y z H5 ∧ D.nx σ H5
/-- del d[y] -/
noncomputable def sDDel (td ty : TE) : TS := fun D σ H => td σ H fun x H1 => ty σ H1 fun y H2 => ∃ a kvs k, x = .ref a ∧ H2 a = some (.dK kvs) ∧ y = kV k ∧ (valV kvs k).isSome = true ∧ D.nx σ (upd H2 a (.dK (dropK kvs k)))

section
variable {X : Cx} {o i e value : Expr} {pos pos' tpos : Pos} {td ty tv : TE}
end


/-! ### displays -/
theorem dk_empty {P : Program} {w : World} {H : Hp} (h : Heap) (hb : sysModules < h.objs.size) : ObjOk P w H (h.push { cls := .type "dict", data := .dict #[] }) h.objs.size (.dK []) :=
  ⟨Nat.zero_le _, beq_eq_false_iff_ne.mpr (Ne.symm (Nat.ne_of_lt hb)), [], .nil, Heap.DictOf.new h⟩
/-- {}, to be a dict of the kind that is wanted -/
noncomputable def tDNewK : TE := fun _ H Q => ∀ p, H p = none → Q (.ref p) (upd H p (.dK []))
noncomputable def tDNewT : TE := fun _ H Q => ∀ p, H p = none → Q (.ref p) (upd H p (.dT []))
section
variable {X : Cx} {pos : Pos}
theorem pe_dnewK : PE X (.Dict [] [] pos) tDNewK := fun pins s σ H Q I h =>
  wpAny_Dict_empty ⟨.ref s.heap.objs.size, _, I.laid (a := s.heap.objs.size) (o := .dK []) (t' := s.toks) (fun _ _ q => Heap.get?_push_of_some _ q) (Nat.le_refl _) (dk_empty s.heap I.big), rfl, h _ (I.hok.fresh (Nat.le_refl _))⟩
end

/-- the pairs of a display, from the left -/
noncomputable def tPairs : List (TE × TE) → St → Hp → (List (V × V) → Hp → Prop) → Prop
  | [], _, H, Q => Q [] H
  | (tk, tv) :: r, σ, H, Q => tk σ H fun x H1 => tv σ H1 fun y H2 => tPairs r σ H2 fun ps H3 => Q ((x, y) :: ps) H3
noncomputable abbrev VV : List (V × V) → List (Value × Value) → Prop := Paired fun p q => RelV p.1 q.1 ∧ RelV p.2 q.2
noncomputable def PPs (X : Cx) (pos : Pos) (keys : List (Option Expr)) (values : List Expr) (trs : List (TE × TE)) : Prop :=
  ∀ (pins : List (Addr × Obj)) (s : Shared) (σ : St) (H : Hp) (Q : List (V × V) → Hp → Prop), Inv X pins σ H s → tPairs trs σ H Q →
    wpAny (model X.prog X.w) X.A (evalPairs (pairTrees keys values X.env pos)) (fun vs s' => ∃ ps H', Inv X pins σ H' s' ∧ VV ps vs ∧ Q ps H') X.xe s
noncomputable def mergeK (kvs more : List (Key × V)) : List (Key × V) := more.foldl (fun acc kv => putK acc kv.1 kv.2) kvs
/-- {k: v, ..} with keys ints and texts; the new dict stands empty while the pairs are made -/
noncomputable def tDisp (trs : List (TE × TE)) : TE := fun σ H Q => ∀ p, H p = none → tPairs trs σ (upd H p (.dK [])) fun ps H2 => H2 p = some (.dK []) ∧ ∃ kvs : List (Key × V), ps = kvs.map (fun kv => (kV kv.1, kv.2)) ∧ kvs.length ≤ 15 ∧ Q (.ref p) (upd H2 p (.dK (mergeK [] kvs)))
/-! ### methods -/
/-- a method call o.m(e) of a built-in, with one argument: what must be seen of the text -/
structure M1 (X : Cx) (o : Expr) (m : Str) (apos : Pos) (e : Expr) (cpos : Pos) : Prop where
  base : attributeBase o m X.env (eval o X.env) = eval o X.env
  few : ((backTo cpos (starEach [e] X.env)).all (fun x => !x.1) && (backToKw cpos (keywordEach [] X.env)).all (fun x => x.1.isSome)
    && decide (([e] : List Expr).length + ([] : List Keyword).length + (if ([] : List Keyword).isEmpty then 0 else 1) < 30)) = true
  line : (apos.endLine == cpos.line) = true
  trees : backTo cpos (starEach [e] X.env) = [(false, eval e X.env)]
structure M2 (X : Cx) (o : Expr) (m : Str) (apos : Pos) (e f : Expr) (cpos : Pos) : Prop where
  base : attributeBase o m X.env (eval o X.env) = eval o X.env
  few : ((backTo cpos (starEach [e, f] X.env)).all (fun x => !x.1) && (backToKw cpos (keywordEach [] X.env)).all (fun x => x.1.isSome)
    && decide (([e, f] : List Expr).length + ([] : List Keyword).length + (if ([] : List Keyword).isEmpty then 0 else 1) < 30)) = true
  line : (apos.endLine == cpos.line) = true
  trees : backTo cpos (starEach [e, f] X.env) = [(false, eval e X.env), (false, eval f X.env)]

/-- a is a dict, whatever its keys -/
noncomputable def IsD (H : Hp) (a : Addr) : Prop := (∃ kvs, Rd H a (.dK kvs)) ∨ ∃ kvs, Rd H a (.dT kvs)
section
variable {X : Cx} {pins : List (Addr × Obj)} {σ : St} {H : Hp} {s : Shared} {a : Addr} {y d : V} {u r : Value} {o : Option V} {A : Around} {E : Value → Shared → Prop}
end

noncomputable def tDGet1 (td ty : TE) : TE := fun σ H Q => td σ H fun x H1 => ∃ a, x = .ref a ∧ IsD H1 a ∧ ty σ H1 fun y H2 => ∃ o, DGet H2 a y o ∧ Q (o.getD .non) H2
noncomputable def tDGet2 (td ty tx : TE) : TE := fun σ H Q => td σ H fun x H1 => ∃ a, x = .ref a ∧ IsD H1 a ∧ ty σ H1 fun y H2 => tx σ H2 fun z H3 => ∃ o, DGet H3 a y o ∧ Q (o.getD z) H3
/-- d.pop(k): there; d.pop(k, x): there or not -/
noncomputable def tDPop1 (td ty : TE) : TE := fun σ H Q => td σ H fun x H1 => ∃ a, x = .ref a ∧ IsD H1 a ∧ ty σ H1 fun y H2 => ∃ kvs k v, H2 a = some (.dK kvs) ∧ y = kV k ∧ valV kvs k = some v ∧ Q v (upd H2 a (.dK (dropK kvs k)))
noncomputable def tDPop2 (td ty tx : TE) : TE := fun σ H Q => td σ H fun x H1 => ∃ a, x = .ref a ∧ IsD H1 a ∧ ty σ H1 fun y H2 => tx σ H2 fun z H3 => ∃ kvs k, H3 a = some (.dK kvs) ∧ y = kV k ∧
  (∀ v, valV kvs k = some v → Q v (upd H3 a (.dK (dropK kvs k)))) ∧ (valV kvs k = none → Q z H3)
section
variable {X : Cx} {o e f : Expr} {apos cpos : Pos} {td ty tx : TE}
end

/-! ### dict(d): a copy -/
section
variable {X : Cx} {pins : List (Addr × Obj)} {σ : St} {H : Hp} {s : Shared} {a : Addr} {kvs : List (Key × V)} {A : Around} {E : Value → Shared → Prop}
end


section
variable {X : Cx} {pins : List (Addr × Obj)} {σ : St} {H : Hp} {s : Shared} {a : Addr} {y : V} {u : Value} {A : Around} {E : Value → Shared → Prop}
end
end L2

namespace Att
open PySem PySem.W PySem.Calls PyProof.Rows

/-! ### the script -/
theorem ints_of_wellAll {P : Params} {h : Heap} : ∀ (ns : List Int) (vs : List Value), WellAll P h vs (ns.map WData.int) → IntsAre vs ns := by
  intro ns
  induction ns with
  | nil =>
    intro vs w
    rw [List.map_nil] at w
    cases w
    exact .nil
  | cons n ns ih =>
    intro vs w
    rw [List.map_cons] at w
    cases w with
    | cons a b =>
      cases a
      exact .cons _ _ (ih _ b)

theorem script_of {l : OpenLaw} {n : Nat} (hn : l.most = some n) {P : Params} {h : Heap} {args : List WData} {vals : List Value}
    (hpre : l.row.toRowW.claim.pre args = true) (hwl : WellAll P h vals args) :
    ∃ a vs ns, vals = [Value.ref a] ∧ args = [WData.list (ns.map WData.int)] ∧ h.get? a = some { cls := .type "list", data := .seq vs.toArray } ∧ IntsAre vs ns ∧ ns.length ≤ n := by
  have hsh : WShape.hasAll [] args [.list .int] = true := (pre_splitW hpre).1
  have hc : l.pre.holds [] { args := args } = true := (pre_splitW hpre).2
  obtain ⟨d, r, rfl, h1, h2⟩ := hasAllW_cons hsh
  obtain rfl := hasAllW_nil h2
  obtain ⟨xs, rfl, h3⟩ := hasW_list h1
  obtain ⟨ns, rfl⟩ := items_int h3
  have hlen : ns.length ≤ n := by
    unfold OpenLaw.pre at hc
    have h4 : (WTm.not (.lt (.lit (.int (n : Int))) (.len (.arg 0)))).holds [] { args := [.list (ns.map .int)] } = true := by
      have h4 := (holds_andW hc).1
      rw [hn] at h4
      exact h4
    have h5 := condW_of h4 (w_not (w_lt w_lit (w_len_list (w_arg rfl))))
    rw [List.length_map] at h5
    refine Nat.le_of_not_lt fun q => ?_
    have q' : (n : Int) < ((ns.length : Nat) : Int) := by omega
    first
      | (rw [decide_eq_true q'] at h5; exact absurd h5 (by decide))
      | (simp at h5; omega)
  cases hwl with
  | cons w1 w2 =>
    cases w2
    cases w1 with
    | list ho hall => exact ⟨_, _, ns, rfl, rfl, ho, ints_of_wellAll ns _ hall, hlen⟩

theorem post_true (l : OpenLaw) (args : List WData) : l.row.toRowW.claim.post args (.bool true) args = true :=
  postW_of (r := l.row.toRowW) (X := (true == true))
    (show WShape.has [] (.bool true) .bool = true by first | rfl | decide | simp [WShape.has, WShape.arms, WShape.armsAll])
    (show (WTm.eq .res (.lit (.bool true))).value [] { args := args, res := some (.bool true), after := args } = some (.bool (true == true)) from w_eq_bool (w_res rfl) w_lit) rfl

/-! ### the attachment: holds_open's last premise (the goal 'hc' behind k_head) from a wpAny of the law's body -/
/-- the same from a codeAny of the CALL (for a layer whose function contracts speak of calls) -/
theorem attach_call {l : OpenLaw} {n : Nat} {q : Program} {loose : List Str} {XP : (Str → Option Value) → Heap → Prop} {YP : World → Heap → Prop} {d : DefRec}
    (hn : l.most = some n) (hdf : d.params.defaults = [])
    (call : ∀ (w : World) (s₀ s₁ : Shared) (mg mb : Str → Option Value) (fa : Addr) (o : Obj) (pm cd doc : Value) (a : Addr) (vs : List Value) (ns : List Int),
      Ground q loose [] XP w s₀ mg mb s₁.heap → YP w s₁.heap →
      s₁.heap.get? fa = some o → o.data = .func (docDef d.name d.params d.body d.scope pm cd doc) → s₁.heap.CodeRec cd d.name → mg d.name = some (.ref fa) →
      s₁.heap.get? a = some { cls := .type "list", data := .seq vs.toArray } → IntsAre vs ns → ns.length ≤ n → s₁.gens = #[] →
      codeAny (model l.prog w) callerA (.call (.ref fa) ⟨[.ref a], []⟩) (fun r s' => r = .ok (.ret (.bool true)) ∧ OldK s₁.heap s'.heap ∧ s'.os = s₁.os ∧ AllBare s'.gens) s₁) :
    WalkO q loose XP YP l.row.toRowW d [] (fun f vs => PySem.call f vs) := by
  intro w s₀ s₁ mg mb G Y fa o pm cd doc dV kV ho hd hcd hD hmg hg args vals as hpre hlay hrd hwl hlo
  obtain rfl : dV = .none := Dflts.none hD hdf
  obtain rfl : kV = .none := Dflts.noKw hD
  obtain ⟨a, vs, ns, rfl, rfl, hobj, hints, hlen⟩ := script_of hn hpre hwl
  refine enter_call (codeAny_mono (call w s₀ s₁ mg mb fa o pm cd doc a vs ns G Y ho (fd_plain hd) hcd hmg hobj hints hlen hg) fun r s' hq => ?_)
  obtain ⟨rfl, h2, h3, h4⟩ := hq
  exact ⟨.inl ⟨.bool true, .bool true, [], rfl, fun _ => rfl, .bool true, post_true l _, fun _ => ⟨List.Pairwise.nil, fun _ hm => (nomatch hm)⟩⟩, h2, h3, h4⟩

/-! ### rules over ANY heap (no ledger) from facts about the written part K: the library's own take a ledger (News) for what they write -/
section
variable {prog : Program} {w : World} {A : Around} {E : Value → Shared → Prop} {s : Shared} {K : Frag}

/-! the whole heap as the ledger: makes every rule that writes through a ledger a rule over any heap -/
noncomputable def noObjs (h : Heap) : Heap := { h with objs := #[] }
noncomputable def ledger (h : Heap) (L d : Addr) : List (Addr × Obj) := (List.range h.objs.size).filterMap fun a => if a = L ∨ a = d then none else (h.get? a).map fun o => (a, o)
end
end Att

namespace L2
open PySem PySem.Spec PyProof.Rows

theorem vals_ints {vs : List Value} {ns : List Int} (h : IntsAre vs ns) : Vals (ns.map V.int) vs := by
  induction h with
  | nil => exact .nil
  | cons n t _ ih => exact .cons ⟨t, rfl⟩ ih

/-- nothing is tracked but the script, known to the object (or it is an object of the module) -/
noncomputable def Only (H : Hp) : Prop := ∀ b, H b = none ∨ ∃ o xs, H b = some (.frz o (.lst xs))

/-- THE HEAD: the law's promise, at the heap behind the top. F, the promise of the law's def, may use that base is part of the heap (so K.In base, base.Ns mainGlobals mg stand in Mod) -/
theorem law_call {P : Program} {w : World} {K : PySem.W.Frag} {mg mb : Str → Option Value} {CX : CXT} {k : Nat} {fa a : Addr} {fd : FuncData} {x : Str} {sp : Sp} {s₁ : Shared} {vs : List Value} {ns : List Int}
    (KX : K.In s₁.heap) (hns : s₁.heap.Ns mainGlobals mg) (hb : s₁.heap.Ns builtinsNs mb) (hbb : ∀ x : Str, x ≠ "__name__" → mb x = bootBuiltins x) (hlim : s₁.heap.NoLimit) (hg : s₁.gens = #[])
    (ha : s₁.heap.get? a = some { cls := .type "list", data := .seq vs.toArray }) (hi : IntsAre vs ns) (hl : ns.length ≤ sizeLine) (hr : Room k callerA)
    (F : ∀ base : Heap, K.In base → base.Ns mainGlobals mg → FnOk P w K mg base CX k fa fd [x] sp) (hbind : ∀ (s : Shared) (u : Value), BindsTo s fd ⟨[u], []⟩ [(x, u)])
    (hsp : ∀ H : Hp, Only H → SqL K H a (ns.map V.int) → sp [.ref a] H (fun v _ => v = .bl true) fun _ _ _ => False)
    (hCX : ∀ H e s', CX [] H s₁ (fun _ _ _ => False) e s' → False) :
    codeAny (model P w) callerA (.call (.ref fa) ⟨[.ref a], []⟩) (fun r s' => r = .ok (.ret (.bool true)) ∧ OldK s₁.heap s'.heap ∧ s'.os = s₁.os ∧ AllBare s'.gens) s₁ := by
  have rv := vals_ints hi
  have lenV := hi.length
  -- from an abstract heap in which nothing but the script may be tracked
  have core : ∀ H : Hp, Only H → SqL K H a (ns.map V.int) → HOk P w H s₁.heap → (∀ b, H b ≠ none → b = a) → (H a ≠ none → K.lookup a = none) →
      codeAny (model P w) callerA (.call (.ref fa) ⟨[.ref a], []⟩) (fun r s' => r = .ok (.ret (.bool true)) ∧ OldK s₁.heap s'.heap ∧ s'.os = s₁.os ∧ AllBare s'.gens) s₁ := by
    intro H hO hS hok hA hK
    have base_of : ∀ {b : Addr} {o : Obj}, s₁.heap.get? b = some o → H b = none → (hidT s₁.heap H).get? b = some o := fun e n => hidT_get e n
    have noA : ∀ {b : Addr} {o : Obj} {es : Array DictEntry} {ep : Nat}, s₁.heap.get? b = some o → o.data = .dict es ep → H b = none := fun {b o es ep} e d => by
      cases q : H b with
      | none => rfl
      | some u =>
        have e' : b = a := hA b (by rw [q]; simp)
        subst e'
        rw [ha] at e; cases e
        have d' : Data.seq vs.toArray _ = Data.dict es ep := d
        cases d'
    have nsK : ∀ {b : Addr} {m : Str → Option Value}, s₁.heap.Ns b m → (hidT s₁.heap H).Ns b m := fun {b m} ⟨o, es, ep, e, d, r⟩ => ⟨o, es, ep, base_of e (noA e d), d, r⟩
    have hKb : K.In (hidT s₁.heap H) := fun b o e => base_of (KX b o e) (by
      cases q : H b with
      | none => rfl
      | some u =>
        have e' : b = a := hA b (by rw [q]; simp)
        subst e'
        rw [hK (by rw [q]; simp)] at e; cases e)
    have hM : Mod K mg (hidT s₁.heap H) := ⟨hKb, nsK hns, ⟨mb, nsK hb, hbb⟩, let ⟨mc, h1, h2⟩ := hlim; ⟨mc, nsK h1, h2⟩⟩
    have e0 : Env0 P w K mg (hidT s₁.heap H) callerA [] s₁ H := ⟨rfl, hM, fun b o e => of_hidT e, Nat.le_of_eq (hidT_size _ _), trivial, fun b hb => absurd (show b ∈ ([] : List Addr) from hb) (by simp), hok, .of_eq hg⟩
    refine codeAny_mono ((F _ hKb (nsK hns)).run callerA [] s₁ H ⟨[.ref a], []⟩ [.ref a] [.ref a] _ _ hr e0 (hbind s₁ (.ref a)) (.cons rfl .nil) (hsp H hO hS)) fun r s' h => ?_
    cases r with
    | error e => exact (hCX H e s' h).elim
    | ok fl =>
      cases fl with
      | next => exact False.elim h
      | brk => exact False.elim h
      | cont => exact False.elim h
      | ret u =>
        obtain ⟨v, H', os, bare, un, hok', r', q⟩ := h
        have q' : v = .bl true := q
        subst q'
        obtain rfl : u = Value.bool true := r'
        refine ⟨rfl, OldK.of_keep fun b o e => ?_, os, bare⟩
        cases q : H b with
        | none => exact un.keep b o e q (by intro z; exact absurd (show b ∈ ([] : List Addr) from z) (by simp)) (by simp)
        | some u =>
          rcases hO b with z | ⟨ob, xs, z⟩
          · rw [q] at z; cases z
          · have z2 := un.frzs b ob _ z
            obtain ⟨e1, _⟩ := hok b _ z
            obtain ⟨e2, _⟩ := hok' b _ z2
            rw [e] at e1; cases e1
            exact e2
  cases hk : K.lookup a with
  | some o =>
    -- the script is one of the module's own objects
    have e := KX a o hk
    rw [ha] at e
    cases e
    refine core (fun _ => none) (fun _ => .inl rfl) (.inr ⟨_, vs.toArray, _, hk, rfl, rfl, rfl, by rw [List.size_toArray, lenV]; exact hl, by simpa using rv⟩) (fun b u z => by have z' : (none : Option HO) = some u := z; cases z') (fun b z => absurd rfl z) fun z => absurd rfl z
  | none =>
    refine core (fun b => if b = a then some (.frz { cls := .type "list", data := .seq vs.toArray } (.lst (ns.map V.int))) else none) (fun b => ?_) (.inl (.inr ⟨{ cls := .type "list", data := .seq vs.toArray }, if_pos rfl⟩)) (fun b u z => ?_) (fun b z => ?_) fun _ => hk
    · by_cases hb : b = a
      · exact .inr ⟨_, _, if_pos hb⟩
      · exact .inl (if_neg hb)
    · by_cases hb : b = a
      · have z' := (if_pos hb).symm.trans z
        cases z'
        subst hb
        exact ⟨ha, by rw [List.length_map]; exact hl, vs, _, rv, ha⟩
      · have z' := (if_neg hb).symm.trans z
        cases z'
    · by_cases hb : b = a
      · exact hb
      · exact absurd (if_neg hb) z
end L2

namespace L2
open PySem PySem.Spec PyProof.Rows

noncomputable abbrev KOf {K : PySem.W.Frag} {h : Heap} (_ : K.In h) : PySem.W.Frag := K

/-- the goal that k_head leaves (case hc), from the law's promise. F gives the function object fd (K's own) once, then the promise over every base -/
theorem walk_of {l : PySem.W.OpenLaw} {n k : Nat} {q : Program} {loose : List Str} {XP : (Str → Option Value) → Heap → Prop} {YP : World → Heap → Prop} {d : DefRec} {K : Params → PySem.W.Frag} {CX : World → CXT} {sp : World → Sp} {x : Str}
    (hn : l.most = some n) (hn2 : n ≤ sizeLine) (hdf : d.params.defaults = []) (hr : Room k callerA)
    (hY : ∀ (w : World) (h : Heap), YP w h → (K w.params).In h)
    (F : ∀ (w : World) (mg : Str → Option Value) (fa : Addr) (h : Heap), (K w.params).In h → h.Ns mainGlobals mg → mg d.name = some (.ref fa) →
      ∃ fd : FuncData, (∀ (s : Shared) (u : Value), BindsTo s fd ⟨[u], []⟩ [(x, u)]) ∧
        ∀ base : Heap, (K w.params).In base → base.Ns mainGlobals mg → FnOk l.prog w (K w.params) mg base (CX w) k fa fd [x] (sp w))
    (hsp : ∀ (w : World) (H : Hp) (a : Addr) (ns : List Int), ns.length ≤ n → Only H → SqL (K w.params) H a (ns.map V.int) → sp w [.ref a] H (fun v _ => v = .bl true) fun _ _ _ => False)
    (hCX : ∀ (w : World) (H : Hp) (s : Shared) (e : Value) (s' : Shared), CX w [] H s (fun _ _ _ => False) e s' → False) :
    PySem.W.WalkO q loose XP YP l.row.toRowW d [] (fun f vs => PySem.call f vs) := by
  refine Att.attach_call hn hdf fun w s₀ s₁ mg mb fa o pm cd doc a vs ns G Y ho hd hcd hmg hobj hints hlen hg => ?_
  have KX := hY w _ Y
  obtain ⟨fd, hb, hF⟩ := F w mg fa _ KX G.T.g hmg
  exact law_call KX G.T.g G.T.b G.T.builtins G.T.nolimit hg hobj hints (Nat.le_trans hlen hn2) hr hF hb (fun H hO hS => hsp w H a ns hlen hO hS) fun H e s' => hCX w H s₁ e s'
end L2



/-! SHORT WORDS over the layer: a def of the text, its body, what a loop and a test want. -/
namespace L2
open PySem PySem.Spec PyProof.Rows

/-! ### the text by places -/
/-- the j-th statement of a class's body -/
noncomputable def inClass (s : Stmt) (j : Nat) : Stmt := match s with
  | .ClassDef _ _ _ body _ _ _ _ _ _ _ => body.getD j (.Pass ⟨0, 0, 0, 0⟩)
  | _ => .Pass ⟨0, 0, 0, 0⟩
noncomputable def defArgs (s : Stmt) : Arguments := match s with
  | .FunctionDef _ a _ _ _ _ _ _ _ _ => a
  | _ => { posonlyargs := [], args := [], vararg := none, kwonlyargs := [], kw_defaults := [], kwarg := none, defaults := [] }
noncomputable def defBody (s : Stmt) : List Stmt := match s with
  | .FunctionDef _ _ b _ _ _ _ _ _ _ => b
  | _ => []
noncomputable def defScope (s : Stmt) : Scope := match s with
  | .FunctionDef _ _ _ _ _ _ sc _ _ _ => sc
  | _ => { kind := .function, names := [], isGenerator := false, isCoroutine := false }

/-! ### no exception leaves a def -/
noncomputable abbrev CX0 : CXT := fun _ _ _ _ _ _ => False
noncomputable abbrev E0 : XK := fun _ _ _ => False
theorem pass0 {X : Cx} : Passes CX0 X E0 := fun _ _ _ _ _ _ _ h => h.elim

/-! ### a def (or method) of the text as it stands behind the top -/
structure Fun (K : PySem.W.Frag) (x qual : Str) (st : Stmt) (f : Addr) (fd : FuncData) : Prop where
  ex : ∃ (oc : Value) (od : Option Addr) (kV doc pm : Value) (an : Option Addr) (cdv ct : Value) (osl : Array (Option Value)),
    fd = PySem.W.fnOf x qual (defArgs st) (defBody st) (defScope st) .none kV doc pm an cdv ct ∧ K.lookup f = some ⟨oc, od, .func fd, osl⟩ ∧ PySem.W.codeIn K cdv qual = true
  kp : PySem.W.keepIn K (.ref f) = true
section
variable {P : Program} {w : World} {K : PySem.W.Frag} {mg : Str → Option Value} {base : Heap}
/-- THE RULE for a def: its body as a term of rules, and the reading of that term -/
theorem Fun.ok {x qual : Str} {st : Stmt} {f : Addr} {fd : FuncData} {N ps : List Str} {k : Nat} {sp : Sp} (F : Fun K x qual st f fd) (S : FnScope N ps (defScope st)) (len : ∀ vs H Q E, sp vs H Q E → vs.length = ps.length)
    (hbody : ∀ (cdv : Value) (A : Around) (outer : List Env) (s : Shared) (H : Hp) (vs : List V) (Q : VK) (E : XK), Room k (A.deeper (envOfC qual (defScope st) s.heap.objs.size f cdv)) → sp vs H Q E →
      ∃ t, PSs (cxOf CX0 P w K mg base N qual (defScope st) f cdv A outer s H E).nox (defBody st) t ∧ t { nx := fun _ H' => Q .non H', rt := Q } (start N vs) H) : FnOk P w K mg base CX0 (k + 1) f fd ps sp := by
  obtain ⟨oc, od, kV, doc, pm, an, cdv, ct, osl, rfl, lk, hcd⟩ := F.ex
  refine fn_of lk hcd S len fun A outer s H vs Q E hr hsp => ?_
  obtain ⟨t, h, q⟩ := hbody cdv A outer s H vs Q E hr hsp
  exact ⟨t, h.nox, q⟩
/-- how its arguments bind (no defaults): h is «fun _ _ _ _ _ _ us hl => match us, hl with | [_, _], _ => rfl», one _ a parameter -/
theorem Fun.binds {x qual : Str} {st : Stmt} {f : Addr} {fd : FuncData} {ps : List Str} (F : Fun K x qual st f fd)
    (h : ∀ (kV doc pm : Value) (an : Option Addr) (cdv ct : Value) (us : List Value), us.length = ps.length → bindArgs (PySem.W.fnOf x qual (defArgs st) (defBody st) (defScope st) .none kV doc pm an cdv ct) ⟨us, []⟩ = pure (ps.zip us)) : Binds K fd ps [] := by
  obtain ⟨oc, od, kV, doc, pm, an, cdv, ct, osl, rfl, lk, hcd⟩ := F.ex
  exact .all (h kV doc pm an cdv ct)
theorem fun_mk {x qual : Str} {st : Stmt} {f : Addr} {oc : Value} {od an : Option Addr} {osl : Array (Option Value)} {kV doc pm cdv ct : Value} (l : K.lookup f = some ⟨oc, od, .func (PySem.W.fnOf x qual (defArgs st) (defBody st) (defScope st) .none kV doc pm an cdv ct), osl⟩)
    (c : PySem.W.codeIn K cdv qual = true) (k : PySem.W.keepIn K (.ref f) = true) : Fun K x qual st f (PySem.W.fnOf x qual (defArgs st) (defBody st) (defScope st) .none kV doc pm an cdv ct) := ⟨⟨oc, od, kV, doc, pm, an, cdv, ct, osl, rfl, l, c⟩, k⟩
end
theorem hu_of {A : Around} {k : Nat} (hr : Room k A) : A.units + 1 < cLine := Nat.lt_of_le_of_lt (Nat.add_le_add_left (by decide : 1 ≤ 64) _) hr.units
/-! ### expressions in short: the name that stands in the i-th slot -/
section
variable {X : Cx}
theorem pv (i : Nat) {x : Str} {pos : Pos} (hN : X.N[i]? = some x := by rfl) (hv : Vis X.env.scope x := by first | exact Or.inl rfl | exact Or.inr (Or.inl rfl) | exact Or.inr (Or.inr rfl)) (hd : (x == ("__debug__" : Str)) = false := by decide)
    (hcd : (x == ("__classdict__" : Str)) = false := by decide) : PE X (.Name x pos) (tVar i) := pe_var hN hv hd hcd
end

/-! ### tests -/
theorem iteF {A B : Prop} (h : B) : if false = true then A else B := by
  rw [if_neg Bool.false_ne_true]
  exact h
theorem iteT {A B : Prop} (h : A) : if true = true then A else B := by
  rw [if_pos rfl]
  exact h
theorem ite2 {c A B : Prop} [Decidable c] (h1 : c → A) (h2 : ¬ c → B) : if c then A else B := by
  by_cases h : c
  · rw [if_pos h]
    exact h1 h
  · rw [if_neg h]
    exact h2 h
/-! ### heaps -/
/-- all that was tracked is as it was -/
noncomputable def Same (H H' : Hp) : Prop := ∀ b o, H b = some o → H' b = some o
theorem Same.seq {K : PySem.W.Frag} {H H' : Hp} {a : Addr} {xs : List V} (e : Same H H') (h : SqL K H a xs) : SqL K H' a xs := by
  rcases h with (h | ⟨o, h⟩) | h
  · exact .inl (.inl (e _ _ h))
  · exact .inl (.inr ⟨o, e _ _ h⟩)
  · exact .inr h

end L2

set_option Elab.async false
set_option linter.all false
set_option maxRecDepth 100000
set_option maxHeartbeats 4000000
namespace L2
open PySem PySem.Spec PyProof.Rows

/-! ### the cells that a comprehension's block takes over -/
noncomputable def clF (env : Env) : List (Str × NameKind) → List (Str × Addr) → List (Str × Addr)
  | [], cs => cs
  | (n, k) :: r, cs => clF env r (if k == NameKind.free then (n, (env.cells.lookup n).getD 0) :: cs else cs)

theorem clF_run (env : Env) : ∀ (l : List (Str × NameKind)) (cs : List (Str × Addr)), (∀ n, (n, NameKind.free) ∈ l → (env.cells.lookup n).isSome = true) →
    (forIn l cs fun x r => (match x with
      | (name, kind) => if (kind == NameKind.free) = true then (do let c ← cellOf env name; pure (ForInStep.yield ((name, c) :: r))) else pure (ForInStep.yield r) : Sem (ForInStep (List (Str × Addr))))) = pure (clF env l cs) := by
  intro l
  induction l with
  | nil => intro cs _; rfl
  | cons x l ih =>
    intro cs h
    obtain ⟨n, k⟩ := x
    rw [List.forIn_cons]
    by_cases hk : k = NameKind.free
    · subst hk
      have h1 := h n List.mem_cons_self
      obtain ⟨c, hc⟩ := Option.isSome_iff_exists.mp h1
      simp only [beq_self_eq_true, if_true, clF, hc, Option.getD_some, cellOf, pure_bind]
      exact ih _ fun m hm => h m (List.mem_cons_of_mem _ hm)
    · have hb : (k == NameKind.free) = false := by simpa using hk
      simp only [hb, Bool.false_eq_true, if_false, clF, pure_bind]
      exact ih _ fun m hm => h m (List.mem_cons_of_mem _ hm)

theorem closureFor_clF {scope : Scope} {env : Env} (h : ∀ n, (n, NameKind.free) ∈ scope.names → (env.cells.lookup n).isSome = true) :
    closureFor scope env = pure (clF env scope.names []) := by
  have e := clF_run env scope.names [] h
  unfold closureFor
  simp only [bind_pure] at e ⊢
  exact e

theorem clF_sub (env : Env) : ∀ (l : List (Str × NameKind)) (cs : List (Str × Addr)), (∀ n, (n, NameKind.free) ∈ l → (env.cells.lookup n).isSome = true) →
    (∀ y c, cs.lookup y = some c → env.cells.lookup y = some c) → ∀ y c, (clF env l cs).lookup y = some c → env.cells.lookup y = some c := by
  intro l
  induction l with
  | nil => intro cs _ h; exact h
  | cons x l ih =>
    intro cs h hc
    obtain ⟨n, k⟩ := x
    refine ih _ (fun m hm => h m (List.mem_cons_of_mem _ hm)) ?_
    by_cases hk : k = NameKind.free
    · subst hk
      obtain ⟨c, e⟩ := Option.isSome_iff_exists.mp (h n List.mem_cons_self)
      simp only [beq_self_eq_true, if_true, e, Option.getD_some]
      intro y c' q
      rw [List.lookup_cons] at q
      cases hy : y == n with
      | true =>
        rw [hy] at q
        have ey : y = n := by simpa using hy
        cases q
        rw [ey]; exact e
      | false =>
        rw [hy] at q
        exact hc y c' q
    · have hb : (k == NameKind.free) = false := by simpa using hk
      simp only [hb, Bool.false_eq_true, if_false]
      exact hc

theorem clF_has (env : Env) : ∀ (l : List (Str × NameKind)) (cs : List (Str × Addr)) (y : Str), ((y, NameKind.free) ∈ l ∨ (cs.lookup y).isSome = true) → ((clF env l cs).lookup y).isSome = true := by
  intro l
  induction l with
  | nil => intro cs y h; exact h.elim (fun z => by cases z) id
  | cons x l ih =>
    intro cs y h
    obtain ⟨n, k⟩ := x
    refine ih _ y ?_
    rcases h with h | h
    · rcases List.mem_cons.mp h with e | e
      · cases e
        right
        simp
      · exact .inl e
    · right
      by_cases hk : k = NameKind.free
      · subst hk
        simp only [beq_self_eq_true, if_true, List.lookup_cons]
        cases hy : y == n <;> simp [h]
      · have hb : (k == NameKind.free) = false := by simpa using hk
        simp only [hb, Bool.false_eq_true, if_false]
        exact h

/-! ### the names of a block: a name that the relabelled scope knows -/
theorem relabel_kind {scope : Scope} {env : Env} : ∀ (l : List (Str × NameKind)) (x : Str) (k : NameKind),
    (l.map fun (n, k) => if (k == NameKind.free && env.scope.kind == .function && env.kindOf n == some .cell) then (n, NameKind.cell) else (n, k)).lookup x = some k → k = .cell ∨ k = .free →
    (∀ y ∈ l, y.2 ≠ .cell) → (x, NameKind.free) ∈ l
  | [], x, k, h, _, _ => by simp at h
  | (n, k') :: r, x, k, h, hk, hc => by
    rw [List.map_cons, List.lookup_cons] at h
    have hn : (if (k' == NameKind.free && env.scope.kind == .function && env.kindOf n == some .cell) = true then (n, NameKind.cell) else (n, k')).1 = n := by split <;> rfl
    simp only [hn] at h
    cases hx : x == n with
    | true =>
      rw [hx] at h
      have ex : x = n := by simpa using hx
      subst ex
      simp only [Option.some.injEq] at h
      split at h
      · rename_i q
        simp only [Bool.and_eq_true, beq_iff_eq] at q
        rw [q.1.1]; exact List.mem_cons_self
      · have h' : k' = k := h
        rcases hk with z | z
        · exact absurd (h'.trans z) (hc _ List.mem_cons_self)
        · rw [h', z]; exact List.mem_cons_self
    | false =>
      rw [hx] at h
      exact List.mem_cons_of_mem _ (relabel_kind (scope := scope) r x k h hk fun y hy => hc y (List.mem_cons_of_mem _ hy))

/-- the block's context -/
noncomputable def cxC (X : Cx) (xs : List Str) (ix : List Nat) (scope : Scope) (C : Addr) (fp : List Addr) (s : Shared) (H : Hp) : Cx :=
  { X with N := xs ++ ix.map (fun i => X.N.getD i ""), s₀ := s, H₀ := H, env := compEnvC scope (clF X.env scope.names []) C X.env,
           outer := X.stack, stack := X.stack, ex := fp, fn := fun _ => false, pn := [], xe := fun _ _ => False }
/-- the block's slots: its own names, then those that it reads from around it -/
noncomputable def stC (xs : List Str) (ix : List Nat) (σ : St) : St := xs.map (fun _ => none) ++ ix.map (fun i => (σ[i]?).join)

/-- what the comprehension's scope must be like; ix: the slots of the names around it that it reads -/
structure CompScope (X : Cx) (xs : List Str) (ix : List Nat) (scope : Scope) : Prop where
  kind : scope.kind = .function
  nocell : ∀ y ∈ scope.names, y.2 ≠ .cell
  loc : ∀ y ∈ scope.names, y.2 = .local → scope.names.lookup y.1 = some .local
  fre : ∀ n, (n, NameKind.free) ∈ scope.names → X.env.kindOf n = some .cell ∨ X.env.kindOf n = some .free
  own : ∀ x ∈ xs, scope.names.lookup x = some .local
  nd : (xs ++ ix.map (fun i => X.N.getD i "")).Nodup
  inN : ∀ i ∈ ix, i < X.N.length
  frx : ∀ i ∈ ix, scope.names.lookup (X.N.getD i "") = some .free

theorem relabel_free {scope : Scope} {env : Env} : ∀ (l : List (Str × NameKind)) (x : Str), l.lookup x = some .free →
    (l.map fun (n, k) => if (k == NameKind.free && env.scope.kind == .function && env.kindOf n == some .cell) then (n, NameKind.cell) else (n, k)).lookup x = some .cell ∨
    (l.map fun (n, k) => if (k == NameKind.free && env.scope.kind == .function && env.kindOf n == some .cell) then (n, NameKind.cell) else (n, k)).lookup x = some .free
  | [], x, h => by simp at h
  | (n, k') :: r, x, h => by
    rw [List.lookup_cons] at h
    rw [List.map_cons, List.lookup_cons]
    have hn : (if (k' == NameKind.free && env.scope.kind == .function && env.kindOf n == some .cell) = true then (n, NameKind.cell) else (n, k')).1 = n := by split <;> rfl
    simp only [hn]
    cases hx : x == n with
    | true =>
      rw [hx] at h
      have h' : k' = .free := Option.some.inj h
      subst h'
      by_cases hc : (NameKind.free == NameKind.free && env.scope.kind == .function && env.kindOf n == some .cell) = true
      · left; simp only [if_pos hc]
      · right; simp only [if_neg hc]
    | false =>
      rw [hx] at h
      exact relabel_free (scope := scope) r x h

theorem block_start {X : Cx} {xs : List Str} {ix : List Nat} {scope : Scope} {pins : List (Addr × Obj)} {σ : St} {H : Hp} {s s1 : Shared} {fp : List Addr} {h1 : Heap} {tk : Nat}
    (S : CompScope X xs ix scope) (I : Inv X pins σ H s) (hf : ∀ b ∈ fp, FpOk X pins H b) (hfo : ∀ b ∈ fp, ∃ o, s.heap.get? b = some o)
    (hns : h1.Ns s.heap.objs.size (fun _ => none)) (hk : ∀ b o, s.heap.get? b = some o → h1.get? b = some o) (e1 : s1 = { s with heap := h1, toks := tk }) :
    Inv (cxC X xs ix scope s.heap.objs.size fp s H) [] (stC xs ix σ) H s1 := by
  subst e1
  have hcl : ∀ n, (n, NameKind.free) ∈ scope.names → (X.env.cells.lookup n).isSome = true := fun n hn => by
    obtain ⟨c, e⟩ := I.ok.has n (S.fre n hn)
    rw [e]; rfl
  have sub := clF_sub X.env scope.names [] hcl (fun y c q => by simp at q)
  have has := fun y hy => clF_has X.env scope.names [] y (.inl hy)
  have fpl : ∀ b ∈ fp, b ∉ frs X.stack := fun b hb z => by
    obtain ⟨_, f1, f2, _⟩ := hf b hb
    rcases List.mem_cons.mp (I.stkSub b z) with q | q
    · exact f1 q
    · exact f2 q
  have kindR : ∀ x k, (cxC X xs ix scope s.heap.objs.size fp s H).env.kindOf x = some k → k = .cell ∨ k = .free → (x, NameKind.free) ∈ scope.names := fun x k e hk' =>
    relabel_kind (scope := scope) (env := X.env) scope.names x k e hk' S.nocell
  refine ⟨⟨I.ok.mod, S.kind, I.ok.glob, I.ok.blt, Nat.le_refl _, fun x y c a b => ?_, fun x hx => ?_, fun x c z => (by cases z), I.ok.hd, I.ok.frames, .inl rfl, fun b hb => ?_, I.bs, Nat.le_trans I.ok.bsz I.sz, fun b o e hb => ?_, fpl, I.stack, I.stkFree⟩,
    rfl, I.bare, Un.kept hk, ⟨_, hns, fun i x v e1 e2 e3 => ?_⟩, fun x c e => ?_, I.hok.fresh (Nat.le_refl _), fun x c e => I.freeC x c (sub x c e), fun p hp => absurd (show p ∈ ([] : List (Addr × Obj)) from hp) (by simp), I.hok.kept hk, ?_⟩
  · exact I.ok.inj x y c (sub x c a) (sub y c b)
  · have hm : (x, NameKind.free) ∈ scope.names := hx.elim (fun z => kindR x _ z (.inl rfl)) fun z => kindR x _ z (.inr rfl)
    exact Option.isSome_iff_exists.mp (has x hm)
  · obtain ⟨f0, f1, f2, f3, f4, f5⟩ := hf b hb
    obtain ⟨o, ho⟩ := hfo b hb
    exact ⟨fun z => Nat.lt_irrefl _ (Nat.lt_of_lt_of_eq (Heap.lt_size ho) z.symm), fun x c e => f4 x c (sub x c e)⟩
  · obtain ⟨f0, f1, f2, f3, f4, f5⟩ := hf b hb
    rcases f3 with q | q
    · exact I.ok.noex b o e q
    · exact Nat.lt_irrefl _ (Nat.lt_of_lt_of_le (Heap.lt_size e) (Nat.le_trans I.ok.bsz q))
  · have e2' : (xs.map (fun _ => (none : Option V)) ++ ix.map (fun i => (σ[i]?).join))[i]? = some (some v) := e2
    have e1' : (xs ++ ix.map (fun i => X.N.getD i ""))[i]? = some x := e1
    by_cases hi : i < xs.length
    · rw [List.getElem?_append_left (by simpa using hi), List.getElem?_map] at e2'
      cases q : xs[i]? with
      | none => rw [q] at e2'; cases e2'
      | some z => rw [q] at e2'; cases e2'
    · have hi' : xs.length ≤ i := Nat.not_lt.mp hi
      rw [List.getElem?_append_right (by simpa using hi'), List.length_map, List.getElem?_map] at e2'
      rw [List.getElem?_append_right hi', List.getElem?_map] at e1'
      cases q : ix[i - xs.length]? with
      | none => rw [q] at e2'; cases e2'
      | some j =>
        rw [q] at e1' e2'
        have hj : j ∈ ix := List.mem_of_getElem? q
        have ex : X.N.getD j "" = x := Option.some.inj e1'
        have ev : (σ[j]?).join = some v := Option.some.inj e2'
        have hjl := S.inN j hj
        have eN : X.N[j]? = some x := by
          rw [← ex, List.getD_eq_getElem?_getD]
          rw [List.getElem?_eq_getElem hjl]; rfl
        have eσ : σ[j]? = some (some v) := by
          cases z : σ[j]? with
          | none => rw [z] at ev; cases ev
          | some y => rw [z] at ev; simp at ev; rw [ev]
        have hfr := S.frx j hj
        rw [ex] at hfr
        have hkin := S.fre x (PySem.mem_of_lookup hfr)
        obtain ⟨m, hn, hl⟩ := I.loc
        obtain ⟨u, ru, lk⟩ := hl j x v eN eσ (hkin.elim (fun z => .inr (.inl z)) fun z => .inr (.inr z))
        refine ⟨u, ru, .inr ⟨relabel_free (scope := scope) (env := X.env) scope.names x hfr, ?_⟩⟩
        rcases lk with ⟨k1, _⟩ | ⟨_, c, ec, zc⟩
        · rcases hkin with z | z <;> (rw [z] at k1; cases k1)
        · obtain ⟨c', ec'⟩ := Option.isSome_iff_exists.mp (has x (PySem.mem_of_lookup hfr))
          have q2 := sub x c' ec'
          rw [ec] at q2; cases q2
          obtain ⟨oc, hoc, hd⟩ := zc
          exact ⟨c, ec', oc, hk c oc hoc, hd⟩
  · obtain ⟨v, oc, hoc, hd⟩ := I.cell x c (sub x c e)
    exact ⟨v, oc, hk c oc hoc, hd⟩
  · show (xs.map (fun _ => (none : Option V)) ++ ix.map (fun i => (σ[i]?).join)).length = (xs ++ ix.map (fun i => X.N.getD i "")).length
    simp

/-- a turn of a comprehension of lists, the step ahead of the store told -/
theorem lc_loop {prog : Program} {w : World} {A : Around} {R : Result → Shared → Prop} {s : Shared} {elt target iter : Expr} {ifs : List Expr} {scope : Scope} {pos : Pos} {it acc : Value} {env : Env} (J : Nat → Shared → Prop)
    (turn : ∀ n s, J n s → wpAny (model prog w) A (pyNext it) (fun r s1 => match r with
      | none => R (.ok .next) s1
      | some v => wpAny (model prog w) A (letOwnedTupleGo target it v) (fun _ s1' => wpAny (model prog w) A (assign target env v) (fun _ s2 =>
          wpAny (model prog w) A (forIn ifs true fun c r => if r = true then do let ok ← isTrue c env (eval c env); pure (ForInStep.yield ok) else pure (ForInStep.yield r)) (fun ok s3 =>
            if ok = true then wpAny (model prog w) A (eval elt env) (fun x s4 =>
              wpAny (model prog w) A (call (.builtin "list.append") [acc, x]) (fun _ s5 => ∃ m, m < n ∧ J m s5) (fun _ _ => False) s4) (fun _ _ => False) s3
            else ∃ m, m < n ∧ J m s3) (fun _ _ => False) s2) (fun _ _ => False) s1') (fun _ _ => False) s1) (fun _ _ => False) s)
    (n : Nat) (h : J n s) : codeAny (model prog w) A (.compLoop (.ListComp elt [⟨target, iter, ifs, 0⟩] scope pos) 0 it acc env) R s := by
  refine codeAny_loop rfl J (fun n s hJ => ?_) n h
  have nof : ∀ (e : Value) (s' : Shared), False → notedBy (model prog w) A env (fun e s' => R (.error e) s') e s' := fun _ _ f => f.elim
  show wpAny (model prog w) A ((compTurn (.ListComp elt [⟨target, iter, ifs, 0⟩] scope pos) 0 it acc env).onRaise (fun x => do noteFrame x env; theTreesLotGoes x)) _ _ s
  refine wpAny_noted ?_
  rw [compTurn_list]
  refine wpAny_bind (wpAny_standAt (wpAny_bind (wpAny_mono (turn n s hJ) (fun r s1 h1 => ?_) nof)))
  cases r with
  | none => exact wpAny_pure h1
  | some v =>
    refine wpAny_bind (wpAny_mono h1 (fun _ s1' h1' => ?_) nof)
    refine wpAny_bind (wpAny_mono h1' (fun _ s2 h2 => ?_) nof)
    refine wpAny_bind (wpAny_mono h2 (fun ok s3 h3 => ?_) nof)
    cases ok with
    | false => exact wpAny_pure ⟨rfl, h3⟩
    | true =>
      refine wpAny_bind (wpAny_bind (wpAny_mono h3 (fun x s4 h4 => ?_) nof))
      exact wpAny_bind (wpAny_mono h4 (fun _ s5 h5 => wpAny_pure (wpAny_pure ⟨rfl, h5⟩)) nof)

/-! ### the reading of [elt for tg in iter if test] -/
noncomputable def PTs (X : Cx) (ifs : List Expr) (t : TT) : Prop :=
  ∀ (pins : List (Addr × Obj)) (s : Shared) (σ : St) (H : Hp) (Q : Bool → Hp → Prop), Inv X pins σ H s → t σ H Q →
    wpAny (model X.prog X.w) X.A (forIn ifs true fun c r => if r = true then do let ok ← isTrue c X.env (eval c X.env); pure (ForInStep.yield ok) else pure (ForInStep.yield r)) (TP X pins σ Q) X.xe s
noncomputable def tYes : TT := fun _ H Q => Q true H
theorem pts_nil {X : Cx} : PTs X [] tYes := fun _ _ _ H _ I h => wpAny_tests_nil ⟨H, I, h⟩
theorem pts_one {X : Cx} {c : Expr} {t : TT} (h : PT X c t) : PTs X [c] t := fun pins s σ H Q I hw => wpAny_tests_one (h pins s σ H Q I hw)

/-- the block's turns: W, the invariant by the turn, a measure, the items so far, the block's slots and heap -/
noncomputable def LCW (J : It) (xs : List Str) (ix : List Nat) (g : TG) (tt : TT) (te : TE) (σ : St) (H1 : Hp) (acc : Addr) (Q : VK) : Prop :=
  ∃ W : Nat → Nat → List V → St → Hp → Prop, (∃ m, W 0 m [] (stC xs ix σ) (upd H1 acc (.lst []))) ∧
    ∀ i m ys τ H, W i m ys τ H → H acc = some (.lst ys) ∧ ys.length < sizeLine ∧
      ((J.stop i H ∧ Q (.ref acc) H) ∨ (J.go i H ∧ ∃ N : List V → St → Hp → Prop, (∀ ys' τ' H', N ys' τ' H' → ∃ m', m' < m ∧ W (i + 1) m' ys' τ' H') ∧
        ∀ x H', J.yld i H x H' → g x τ H' fun τ2 H2 => tt τ2 H2 fun b H3 =>
        if b = true then te τ2 H3 fun y H4 => H4 acc = some (.lst ys) ∧ N (ys ++ [y]) τ2 (upd H4 acc (.lst (ys ++ [y]))) else N ys τ2 H3))
noncomputable def tLC (xs : List Str) (ix : List Nat) (wi : TI) (g : TG) (tt : TT) (te : TE) : TE := fun σ H Q => wi σ H fun J H1 => ∀ acc, H1 acc = none → LCW J xs ix g tt te σ H1 acc Q

/-- a walk in the contexts of a regime -/
structure TurnG (Reg : Cx → Prop) (P : Program) (w : World) (tg : Expr) (J : It) (fp : List Addr) (it : Addr) (tn : Nat → Heap → Prop) : Prop where
  mem : it ∈ fp
  obj : ∀ i h, tn i h → ∀ b ∈ fp, ∃ o, h.get? b = some o ∧ ∀ v, o.data ≠ .cell v
  keep : ∀ i h h', tn i h → (∀ b ∈ fp, ∀ o, h.get? b = some o → h'.get? b = some o) → tn i h'
  item : ∀ (X : Cx), X.prog = P → X.w = w → Reg X → ∀ (i : Nat) (pins : List (Addr × Obj)) (s : Shared) (σ : St) (H : Hp) (E : Value → Shared → Prop), Inv X pins σ H s → (∀ b ∈ fp, FpOk X pins H b) → tn i s.heap → J.go i H →
    wpAny (model P w) X.A (pyNext (.ref it)) (fun r s1 => ∃ u, r = some u ∧
      wpAny (model P w) X.A (letOwnedTupleGo tg (.ref it) u) (fun _ s2 => ∃ x H', Inv X pins σ H' s2 ∧ RelV x u ∧ J.yld i H x H' ∧ tn (i + 1) s2.heap ∧ ∀ b ∈ fp, H' b = none) E s1) E s
  done : ∀ (X : Cx), X.prog = P → X.w = w → Reg X → ∀ (i : Nat) (pins : List (Addr × Obj)) (s : Shared) (σ : St) (H : Hp) (E : Value → Shared → Prop), Inv X pins σ H s → (∀ b ∈ fp, FpOk X pins H b) → tn i s.heap → J.stop i H →
    wpAny (model P w) X.A (pyNext (.ref it)) (fun r s1 => r = none ∧ Inv X pins σ H s1) E s
  self : ∀ (A : Around) (i : Nat) (s : Shared) (Q : Value → Shared → Prop) (E : Value → Shared → Prop), tn i s.heap → Q (.ref it) s → wpAny (model P w) A (pyIter (.ref it)) Q E s
noncomputable def PIEG (Reg : Cx → Prop) (X : Cx) (pins : List (Addr × Obj)) (σ : St) (tg : Expr) (R : It → Hp → Prop) (itv : Value) (s2 : Shared) : Prop :=
  ∃ (it : Addr) (fp : List Addr) (tn : Nat → Heap → Prop) (J : It) (H' : Hp), itv = .ref it ∧ Inv X pins σ H' s2 ∧ TurnG Reg X.prog X.w tg J fp it tn ∧ tn 0 s2.heap ∧ (∀ b ∈ fp, FpOk X pins H' b) ∧ R J H'
noncomputable def PIG (Reg : Cx → Prop) (X : Cx) (tg iter : Expr) (wi : TI) : Prop :=
  ∀ (pins : List (Addr × Obj)) (s : Shared) (σ : St) (H : Hp) (R : It → Hp → Prop), Inv X pins σ H s → wi σ H R →
    wpAny (model X.prog X.w) X.A (eval iter X.env) (fun v s1 => wpAny (model X.prog X.w) X.A (pyIter v) (PIEG Reg X pins σ tg R) X.xe s1) X.xe s
theorem lc_coreG {Reg : Cx → Prop} {X : Cx} {xs : List Str} {ix : List Nat} {scope : Scope} {elt tg iter : Expr} {ifs : List Expr} {pos : Pos} {wi : TI} {g : TG} {tt : TT} {te : TE}
    (S : CompScope X xs ix scope) (hreg : ∀ Y : Cx, Y.K = X.K → Y.calm = X.calm → Y.A.handled = X.A.handled → Reg Y) (hi : PIG Reg X tg iter wi)
    (hg : ∀ C fp s H, PG (cxC X xs ix scope C fp s H) tg g) (ht : ∀ C fp s H, PTs (cxC X xs ix scope C fp s H) ifs tt) (he : ∀ C fp s H, PE (cxC X xs ix scope C fp s H) elt te)
    {pins : List (Addr × Obj)} {s : Shared} {σ : St} {H : Hp} {Q : VK} (I : Inv X pins σ H s) (h : tLC xs ix wi g tt te σ H Q) {use : Option (Value → Sem Unit)} {R : Value → Shared → Prop}
    (fin : ∀ (acc C : Addr) (H' : Hp) (s' : Shared) (m : Str → Option Value), Q (.ref acc) H' → s'.heap.Ns C m → (∀ h', Heap.SameBut C s'.heap h' → ∀ tk, Inv X pins σ H' { s' with heap := h', toks := tk }) → (X.s₀.heap.objs.size ≤ C ∧ C ≠ X.env.locals ∧ (∀ x c, X.env.cells.lookup x = some c → c ≠ C) ∧ (∀ p ∈ X.pn ++ pins, p.1 ≠ C) ∧ H' C = none) → compPost (model X.prog X.w) X.A X.xe use R (.ref acc) C (.ok .next) s') :
    wpAny (model X.prog X.w) X.A (eval iter X.env) (fun x s₁ => wpAny (model X.prog X.w) X.A (pyIter x) (fun it s₂ => wpAny (model X.prog X.w) X.A (newList []) (fun acc s₃ =>
      wpAny (model X.prog X.w) X.A (newFunctionEnv scope X.env.globals (clF X.env scope.names []) [] X.env.qual none .none (some X.env)) (fun cenv s₄ =>
        codeAny (model X.prog X.w) X.A (.compStart (.ListComp elt [⟨tg, iter, ifs, 0⟩] scope pos) 0 it acc { cenv with scope := relabel scope X.env }) (compPost (model X.prog X.w) X.A X.xe use R acc cenv.locals) s₄) X.xe s₃) X.xe s₂) X.xe s₁) X.xe s := by
  refine thn (hi pins s σ H _ I h) fun v s1 h1 => thn h1 fun itv s2 h2 => ?_
  obtain ⟨it, fp, tn, J, H2, rfl, I2, T, st2, f2, q⟩ := h2
  refine wpAny_newObj_type ?_
  -- the new list
  have I3 : Inv X pins σ (upd H2 s2.heap.objs.size (.lst [])) { s2 with heap := s2.heap.push { cls := .type "list", data := .seq ([] : List Value).toArray }, toks := s2.toks } := I2.lnew (ys := []) (its := []) .nil (Nat.zero_le _)
  obtain ⟨W, ⟨m0, w0⟩, turn⟩ := q s2.heap.objs.size I2.fresh
  have objs2 := T.obj 0 _ st2
  have neacc : ∀ b ∈ fp, b ≠ s2.heap.objs.size := fun b hb z => by
    obtain ⟨o, ho, _⟩ := objs2 b hb
    exact Nat.lt_irrefl _ (Nat.lt_of_lt_of_eq (Heap.lt_size ho) z.symm)
  generalize hacc : s2.heap.objs.size = acc at *
  generalize hs3 : ({ s2 with heap := s2.heap.push { cls := .type "list", data := .seq ([] : List Value).toArray } } : Shared) = s3
  have I3 : Inv X pins σ (upd H2 acc (.lst [])) s3 := by rw [← hs3]; exact I3
  have k3 : ∀ b o, s2.heap.get? b = some o → s3.heap.get? b = some o := fun b o e => by rw [← hs3]; exact Heap.get?_push_of_some _ e
  have f3 : ∀ b ∈ fp, FpOk X pins (upd H2 acc (.lst [])) b := fun b hb => ⟨by rw [upd_ne (neacc b hb)]; exact (f2 b hb).1, (f2 b hb).2⟩
  have o3 : ∀ b ∈ fp, ∃ o, s3.heap.get? b = some o := fun b hb => let ⟨o, ho, _⟩ := objs2 b hb; ⟨o, k3 b o ho⟩
  have st3 : tn 0 s3.heap := T.keep _ _ _ st2 fun b _ o e => k3 b o e
  refine wpAny_newFunctionEnv S.nocell (by intro y hy; simp at hy) (fun h1 hns1 hsb1 => ?_) S.kind
  have keep1 : ∀ b o, s3.heap.get? b = some o → h1.get? b = some o := fun b o e => hsb1.extBut b o (Nat.ne_of_lt (Heap.lt_size e)) (Heap.get?_push_of_some _ e)
  generalize hs4 : ({ s3 with heap := h1, toks := s3.toks + ([] : List (Str × Value)).length } : Shared) = s4
  have I4 : Inv (cxC X xs ix scope s3.heap.objs.size fp s3 (upd H2 acc (.lst []))) [] (stC xs ix σ) (upd H2 acc (.lst [])) s4 := block_start S I3 f3 o3 hns1 keep1 hs4.symm
  have st4 : tn 0 s4.heap := T.keep _ _ _ st3 fun b _ o e => by rw [← hs4]; exact keep1 b o e
  generalize hX' : cxC X xs ix scope s3.heap.objs.size fp s3 (upd H2 acc (.lst [])) = X' at *
  have hg := hg s3.heap.objs.size fp s3 (upd H2 acc (.lst []))
  have ht := ht s3.heap.objs.size fp s3 (upd H2 acc (.lst []))
  have he := he s3.heap.objs.size fp s3 (upd H2 acc (.lst []))
  rw [hX'] at hg ht he
  have eP : X'.prog = X.prog := by rw [← hX']; rfl
  have ew : X'.w = X.w := by rw [← hX']; rfl
  have eK : X'.K = X.K := by rw [← hX']; rfl
  have eA : X'.A = X.A := by rw [← hX']; rfl
  have ec : Reg X' := hreg X' eK (by rw [← hX']; rfl) (by rw [← hX']; rfl)
  have ex : X'.xe = fun _ _ => False := by rw [← hX']; rfl
  have eenv : X'.env = compEnvC scope (clF X.env scope.names []) s3.heap.objs.size X.env := by rw [← hX']; rfl
  have eex : X'.ex = fp := by rw [← hX']; rfl
  have efs : X'.fs = frs X.stack := by rw [← hX']; rfl
  have epn : X'.pn = [] := by rw [← hX']; rfl
  have eH0 : X'.H₀ = upd H2 acc (.lst []) := by rw [← hX']; rfl
  have es0 : X'.s₀ = s3 := by rw [← hX']; rfl
  have eloc : X'.env.locals = s3.heap.objs.size := by rw [eenv]; rfl
  have stat : ∀ {H' : Hp}, (∀ b ∈ fp, H' b = none) → ∀ b ∈ fp, FpOk X' [] H' b := fun {H'} hn b hb => by
    refine ⟨hn b hb, ?_, ?_, .inl (by rw [eex]; exact hb), ?_, ?_⟩
    · rw [eloc]
      intro z
      obtain ⟨o, ho⟩ := o3 b hb
      exact Nat.lt_irrefl _ (Nat.lt_of_lt_of_eq (Heap.lt_size ho) z.symm)
    · exact I4.ok.exfs b (by rw [eex]; exact hb)
    · exact (I4.ok.exf b (by rw [eex]; exact hb)).2
    · rw [epn]; intro p hp; exact absurd hp (by simp)
  have loop : codeAny (model X.prog X.w) X.A (.compLoop (.ListComp elt [⟨tg, iter, ifs, 0⟩] scope pos) 0 (.ref it) (.ref acc) X'.env) (compPost (model X.prog X.w) X.A X.xe use R (.ref acc) s3.heap.objs.size) s4 := by
    refine lc_loop (fun n s' => ∃ i ys τ H', Inv X' [] τ H' s' ∧ tn i s'.heap ∧ (∀ b ∈ fp, H' b = none) ∧ W i n ys τ H') ?_ m0 ⟨0, [], _, _, I4, st4, fun b hb => (f3 b hb).1, w0⟩
    rintro n s5 ⟨i, ys, τ, H5, I5, st5, fr5, w5⟩
    obtain ⟨ha5, hz5, way⟩ := turn i n ys τ H5 w5
    rcases way with ⟨stop, qn⟩ | ⟨go, N, hN, step⟩
    · have d := T.done X' eP ew ec i [] s5 τ H5 (fun _ _ => False) I5 (stat fr5) st5 stop
      rw [eA] at d
      refine thn d fun r s6 hz31 => ?_
      obtain ⟨hr, I6⟩ := hz31
      subst hr
      obtain ⟨m, hn6, _⟩ := id I6.loc
      rw [eloc] at hn6
      refine fin acc s3.heap.objs.size H5 s6 m qn hn6 (fun h' hsb tk => ?_) ⟨I3.sz, Ne.symm (Nat.ne_of_lt I3.lt), fun x c e z => by
        obtain ⟨v, oc, hoc, _⟩ := I3.cell x c e
        exact Nat.lt_irrefl _ (Nat.lt_of_lt_of_eq (Heap.lt_size hoc) z.symm), fun p hp z => Nat.lt_irrefl _ (Nat.lt_of_lt_of_eq (Heap.lt_size (I3.pin p hp).1) z.symm), by have := I6.free; rw [eloc] at this; exact this⟩
      have same : ∀ b, b ≠ s3.heap.objs.size → h'.get? b = s6.heap.get? b := fun b hb => hsb.2 b hb
      have ub := I6.base
      rw [efs, eex, eH0, es0] at ub
      have ne3 : ∀ b o, s3.heap.get? b = some o → b ≠ s3.heap.objs.size := fun b o e => Nat.ne_of_lt (Heap.lt_size e)
      have u : Un (frs X.stack) fp (upd H2 acc (.lst [])) H5 s3.heap h' :=
        ⟨fun b o e n1 n2 n3 => (same b (ne3 b o e)).trans (ub.keep b o e n1 n2 n3), fun b o e n1 n2 n3 => by
            obtain ⟨sl, z⟩ := ub.slot b o e n1 n2 n3
            exact ⟨sl, (same b (ne3 b o e)).trans z⟩, ub.free, fun b o e n3 => by
            obtain ⟨o', z⟩ := ub.there b o e n3
            exact ⟨o', (same b (ne3 b o e)).trans z⟩, ub.tups, ub.frzs, ub.tbls⟩
      have fC : H5 s3.heap.objs.size = none := by have := I6.free; rw [eloc] at this; exact this
      have hok : HOk X.prog X.w H5 h' := fun b o e => by
        have z := I6.hok b o e
        rw [eP, ew] at z
        refine z.stay (fun c u hc q => (same c ?_).trans q) (fun _ q => q) fun _ _ q => q
        intro zc
        rcases hc with q1 | q1
        · rw [← q1, zc, fC] at e; cases e
        · rw [zc, fC] at q1; cases q1
      have hch : ∀ b ∈ fp, (b ∈ X.ex ∨ X.s₀.heap.objs.size ≤ b) ∧ b ≠ X.env.locals ∧ (∀ x c, X.env.cells.lookup x = some c → c ≠ b) ∧ ∀ p ∈ X.pn ++ pins, p.1 ≠ b := fun b hb => by
        obtain ⟨_, f1, _, g3, g4, g5⟩ := f3 b hb
        exact ⟨g3, f1, g4, g5⟩
      have ho : s6.os = s3.os := by have := I6.os; rw [es0] at this; exact this
      exact I3.call' (s' := { s6 with heap := h', toks := tk }) (ch := fp) ho u hok I6.bare hch
    · have d := T.item X' eP ew ec i [] s5 τ H5 (fun _ _ => False) I5 (stat fr5) st5 go
      rw [eA] at d
      refine thn d fun r s6 hz32 => ?_
      obtain ⟨u, hr, h6⟩ := hz32
      subst hr
      refine thn h6 fun _ s7 hz33 => ?_
      obtain ⟨x, H7, I7, r7, y7, st7, fr7⟩ := hz33
      have I7' := I7.pinned (stat fr7) (T.obj _ _ st7)
      have dg := hg _ s7 τ H7 x u _ I7' r7 (step x H7 y7)
      rw [eP, ew, eA, ex] at dg
      refine thn dg fun _ s8 hz34 => ?_
      obtain ⟨τ8, H8, I8, q8⟩ := hz34
      have dt := ht _ s8 τ8 H8 _ I8 q8
      rw [eP, ew, eA, ex] at dt
      refine thn dt fun ok s9 hz35 => ?_
      obtain ⟨H9, I9, q9⟩ := hz35
      have again : ∀ {τ' : St} {H' : Hp} {s' : Shared}, Inv X' ([] ++ pinsAt fp s7.heap) τ' H' s' → Inv X' [] τ' H' s' ∧ tn (i + 1) s'.heap ∧ ∀ b ∈ fp, H' b = none := fun {τ' H' s'} Ie => by
        refine ⟨Ie.unpinned, T.keep _ _ _ st7 fun b hb o e => (Ie.pin (b, o) (List.mem_append_right _ (List.mem_append_right _ (mem_pinsAt hb e)))).1, fun b hb => ?_⟩
        obtain ⟨o, e, _⟩ := T.obj _ _ st7 b hb
        exact (Ie.pin (b, o) (List.mem_append_right _ (List.mem_append_right _ (mem_pinsAt hb e)))).2.1
      cases ok with
      | false =>
        rw [if_neg Bool.false_ne_true] at q9 ⊢
        obtain ⟨m', hm, w9⟩ := hN _ _ _ q9
        obtain ⟨z1, z2, z3⟩ := again I9
        exact ⟨m', hm, i + 1, ys, τ8, H9, z1, z2, z3, w9⟩
      | true =>
        rw [if_pos rfl] at q9 ⊢
        have de := he _ s9 τ8 H9 _ I9 q9
        rw [eP, ew, eA, ex] at de
        refine thn de fun yv s10 hz36 => ?_
        obtain ⟨y, H10, I10, r10, ha10, n10⟩ := hz36
        obtain ⟨m', hm, w10⟩ := hN _ _ _ n10
        have dm := mt_append (X := X') _ s10 τ8 H10 (.ref acc) [y] (.ref acc) [yv] (fun v H' => v = .non ∧ H' = upd H10 acc (.lst (ys ++ [y]))) I10 rfl (.cons r10 .nil) ⟨acc, ys, y, rfl, rfl, ha10, hz5, rfl, rfl⟩
        rw [eP, ew, eA, ex] at dm
        refine thn dm fun _ s11 hz37 => ?_
        obtain ⟨_, H11, I11, _, _, e11⟩ := hz37
        subst e11
        obtain ⟨z1, z2, z3⟩ := again I11
        exact ⟨m', hm, i + 1, ys ++ [y], τ8, _, z1, z2, z3, w10⟩
  have e4 : ({ newEnv scope s3.heap.objs.size X.env.globals (clF X.env scope.names []) X.env.qual none .none (some X.env) builtinsNs with scope := relabel scope X.env } : Env) = X'.env := by rw [eenv]; rfl
  rw [eenv] at loop
  have self := T.self X.A 0 s4 (fun it' s' => codeAny (model X.prog X.w) X.A (.compLoop (.ListComp elt [⟨tg, iter, ifs, 0⟩] scope pos) 0 it' (.ref acc) (compEnvC scope (clF X.env scope.names []) s3.heap.objs.size X.env)) (compPost (model X.prog X.w) X.A X.xe use R (.ref acc) s3.heap.objs.size) s')
    (notedBy (model X.prog X.w) X.A (compEnvC scope (clF X.env scope.names []) s3.heap.objs.size X.env) fun x s' => compPost (model X.prog X.w) X.A X.xe use R (.ref acc) s3.heap.objs.size (.error x) s') st4 loop
  exact codeAny_compStart_list loop self

theorem lc_core {X : Cx} {xs : List Str} {ix : List Nat} {scope : Scope} {elt tg iter : Expr} {ifs : List Expr} {pos : Pos} {wi : TI} {g : TG} {tt : TT} {te : TE}
    (S : CompScope X xs ix scope) (hc : X.calm = true) (hi : PI X tg iter wi)
    (hg : ∀ C fp s H, PG (cxC X xs ix scope C fp s H) tg g) (ht : ∀ C fp s H, PTs (cxC X xs ix scope C fp s H) ifs tt) (he : ∀ C fp s H, PE (cxC X xs ix scope C fp s H) elt te)
    {pins : List (Addr × Obj)} {s : Shared} {σ : St} {H : Hp} {Q : VK} (I : Inv X pins σ H s) (h : tLC xs ix wi g tt te σ H Q) {use : Option (Value → Sem Unit)} {R : Value → Shared → Prop}
    (fin : ∀ (acc C : Addr) (H' : Hp) (s' : Shared) (m : Str → Option Value), Q (.ref acc) H' → s'.heap.Ns C m → (∀ h', Heap.SameBut C s'.heap h' → ∀ tk, Inv X pins σ H' { s' with heap := h', toks := tk }) → (X.s₀.heap.objs.size ≤ C ∧ C ≠ X.env.locals ∧ (∀ x c, X.env.cells.lookup x = some c → c ≠ C) ∧ (∀ p ∈ X.pn ++ pins, p.1 ≠ C) ∧ H' C = none) → compPost (model X.prog X.w) X.A X.xe use R (.ref acc) C (.ok .next) s') :
    wpAny (model X.prog X.w) X.A (eval iter X.env) (fun x s₁ => wpAny (model X.prog X.w) X.A (pyIter x) (fun it s₂ => wpAny (model X.prog X.w) X.A (newList []) (fun acc s₃ =>
      wpAny (model X.prog X.w) X.A (newFunctionEnv scope X.env.globals (clF X.env scope.names []) [] X.env.qual none .none (some X.env)) (fun cenv s₄ =>
        codeAny (model X.prog X.w) X.A (.compStart (.ListComp elt [⟨tg, iter, ifs, 0⟩] scope pos) 0 it acc { cenv with scope := relabel scope X.env }) (compPost (model X.prog X.w) X.A X.xe use R acc cenv.locals) s₄) X.xe s₃) X.xe s₂) X.xe s₁) X.xe s :=
  lc_coreG (Reg := fun Y => Y.K = X.K ∧ Y.calm = true) S (fun Y k c _ => ⟨k, c.trans hc⟩)
    (fun pins s σ H R I q => thn (hi pins s σ H R I q) fun v s1 h1 => thn h1 fun itv s2 h2 => by
      obtain ⟨it, fp, tn, J, H', e, I', T, r⟩ := h2
      exact ⟨it, fp, tn, J, H', e, I', ⟨T.mem, T.obj, T.keep, fun Y e1 e2 r => T.item Y e1 e2 r.1 r.2, fun Y e1 e2 r => T.done Y e1 e2 r.1 r.2, T.self⟩, r⟩) hg ht he I h fin
/-- [elt for tg in iter if test] -/
theorem pe_lc {X : Cx} {xs : List Str} {ix : List Nat} {scope : Scope} {elt tg iter : Expr} {ifs : List Expr} {pos : Pos} {wi : TI} {g : TG} {tt : TT} {te : TE}
    (S : CompScope X xs ix scope) (hc : X.calm = true) (hi : PI X tg iter wi)
    (hg : ∀ C fp s H, PG (cxC X xs ix scope C fp s H) tg g) (ht : ∀ C fp s H, PTs (cxC X xs ix scope C fp s H) ifs tt) (he : ∀ C fp s H, PE (cxC X xs ix scope C fp s H) elt te)
    (hs : ∀ x, foldedSetIterable iter X.env x = pure x := by intro _; rfl) :
    PE X (.ListComp elt [⟨tg, iter, ifs, 0⟩] scope pos) (tLC xs ix wi g tt te) := by
  intro pins s σ H Q I h
  have hcl : ∀ n, (n, NameKind.free) ∈ scope.names → (X.env.cells.lookup n).isSome = true := fun n hn => by
    obtain ⟨c, e⟩ := I.ok.has n (S.fre n hn)
    rw [e]; rfl
  rw [eval_ListComp]
  refine wpAny_comprehension_free (use := none) rfl hs (closureFor_clF hcl) S.kind S.loc ?_
  refine lc_core S hc hi hg ht he I h fun acc C H' s' m q hn k _ => ?_
  exact ⟨m, hn, fun h' hsb => ⟨.ref acc, H', k h' hsb s'.toks, rfl, q⟩⟩

/-! ### name = [elt for tg in iter if test], on one row: the store comes ahead of the block's end -/
theorem Inv.letgo {X : Cx} {pins : List (Addr × Obj)} {σ : St} {H : Hp} {s : Shared} {h' : Heap} {C : Addr} (I : Inv X pins σ H s) (hs : Heap.SameBut C s.heap h')
    (hC : X.s₀.heap.objs.size ≤ C ∧ C ≠ X.env.locals ∧ (∀ x c, X.env.cells.lookup x = some c → c ≠ C) ∧ (∀ p ∈ X.pn ++ pins, p.1 ≠ C) ∧ H C = none) : Inv X pins σ H { s with heap := h' } := by
  obtain ⟨c1, c2, c3, c4, c5⟩ := hC
  have same : ∀ b, b ≠ C → h'.get? b = s.heap.get? b := fun b hb => hs.2 b hb
  have ne : ∀ {b : Addr}, b ∉ [C] → b ≠ C := fun h e => h (by simp [e])
  have u : Un (frs X.stack) [C] H H s.heap h' :=
    ⟨fun b o e _ _ n => (same b (ne n)).trans e, fun b o e _ _ n => ⟨o.slots, (same b (ne n)).trans e⟩, fun b o _ e _ => e, fun b o e n => ⟨o, (same b (ne n)).trans e⟩, fun _ _ e => e, fun _ _ _ e => e, fun b ps e => ⟨#[], by rw [Array.append_empty]; exact e⟩⟩
  have hok : HOk X.prog X.w H h' := fun b o e => by
    refine (I.hok b o e).stay (fun c u hc q => (same c ?_).trans q) (fun _ q => q) fun _ _ q => q
    intro zc
    rcases hc with q1 | q1
    · rw [← q1, zc, c5] at e; cases e
    · rw [zc, c5] at q1; cases q1
  refine I.call' (s' := { s with heap := h' }) (ch := [C]) rfl u hok I.bare fun b hb => ?_
  have eb : b = C := by simpa using hb
  subst eb
  exact ⟨.inr c1, c2, c3, c4⟩
theorem ps_setLC {X : Cx} {xs : List Str} {ix : List Nat} {scope : Scope} {elt tg iter : Expr} {ifs : List Expr} {cpos pos pos' : Pos} {wi : TI} {g : TG} {tt : TT} {te : TE} {i : Nat} {x : Str}
    (hN : X.N.Nodup) (hin : X.N[i]? = some x) (hx : Loc X.env.scope x)
    (S : CompScope X xs ix scope) (hc : X.calm = true) (hi : PI X tg iter wi)
    (hg : ∀ C fp s H, PG (cxC X xs ix scope C fp s H) tg g) (ht : ∀ C fp s H, PTs (cxC X xs ix scope C fp s H) ifs tt) (he : ∀ C fp s H, PE (cxC X xs ix scope C fp s H) elt te)
    (hsw : swapsWith (.ListComp elt [⟨tg, iter, ifs, 0⟩] scope cpos) (some (.Name x pos')) pos.line X.env = pure true)
    (hf : X.fn x = true ∨ X.env.scope.names.lookup x = some .local := by first | exact .inl rfl | exact .inr rfl | assumption)
    (hs : ∀ x, foldedSetIterable iter X.env x = pure x := by intro _; rfl) :
    PS X (.Assign [.Name x pos'] (.ListComp elt [⟨tg, iter, ifs, 0⟩] scope cpos) pos) (tAsg (tLC xs ix wi g tt te) (gName i)) := by
  intro pins s σ H D I h
  have hcl : ∀ n, (n, NameKind.free) ∈ scope.names → (X.env.cells.lookup n).isSome = true := fun n hn => by
    obtain ⟨c, e⟩ := I.ok.has n (S.fre n hn)
    rw [e]; rfl
  rw [exec_Assign_Name_used _ _ _ _ hsw]
  refine wpAny_bind (wpAny_standAt (wpAny_bind ?_))
  rw [arm_evalThenUse_ListComp]
  refine wpAny_bind (thn (Q := fun _ s' => SP X pins D .next s') (wpAny_comprehension_free (g := ⟨tg, iter, ifs, 0⟩) (gs := []) (use := some (assign (.Name x pos') X.env)) rfl hs (closureFor_clF hcl) S.kind S.loc ?_) fun _ s1 h1 => wpAny_pure (wpAny_pure h1))
  refine lc_core S hc hi hg ht he I h fun acc C H' s' m q hn k hC => ?_
  have I' : Inv X pins σ H' s' := k s'.heap (Heap.SameBut.refl _ _) s'.toks
  show wpAny (model X.prog X.w) X.A (assign (.Name x pos') X.env (.ref acc)) (fun _ s'' => ∃ m, s''.heap.Ns C m ∧ ∀ h', Heap.SameBut C s''.heap h' → SP X pins D .next { s'' with heap := h' }) X.xe s'
  refine wpAny_assign_Name (store_ok2 I' hN hin hx (v := .ref acc) rfl (fun s'' I'' hz38 => ?_) hf)
  obtain ⟨a, hsa, ha⟩ := hz38
  refine ⟨m, hn.sameBut hsa ?_, fun h' hsb => ⟨_, H', I''.letgo hsb hC, q⟩⟩
  rcases ha with rfl | ha
  · exact hC.2.1
  · exact fun z => hC.2.2.1 x a ha z.symm
end L2

set_option Elab.async false
set_option linter.all false
set_option maxRecDepth 100000
set_option maxHeartbeats 4000000
namespace L2
open PySem PySem.Spec PyProof.Rows

/-! ### a text walked sign by sign -/
noncomputable def Its (x : Str) : It := ⟨fun i _ => i < x.cps.size, fun i H v H' => H' = H ∧ ∃ c, x.cps[i]? = some c ∧ v = .str ⟨#[c]⟩, fun i _ => i = x.cps.size⟩
theorem turn_str {P : Program} {w : World} {K : PySem.W.Frag} {tg : Expr} (it : Addr) (x : Str) (t : Tok) (ty : String)
    (hty : ["enumerate", "zip", "dict_itemiterator", "dict_reverseitemiterator", "odict_iterator", "itertools.zip_longest", "itertools.pairwise"].contains ty = false)
    (W : ∀ A : Around, A.handled = none → Walks P w A it [it] [it] x.cps.size (SignAt x) (fun i h => h.IsStrIter it ty x t i))
    (self : ∀ (A : Around) (i : Nat) (s : Shared) (Q : Value → Shared → Prop) (E : Value → Shared → Prop), s.heap.IsStrIter it ty x t i → Q (.ref it) s → wpAny (model P w) A (pyIter (.ref it)) Q E s) :
    Turn P w K tg (Its x) [it] it (fun i h => h.IsStrIter it ty x t i) where
  mem := by simp
  obj := fun i h st b hb => by
    have e : b = it := by simpa using hb
    subst e
    obtain ⟨o, e, c, d⟩ := st
    exact ⟨o, e, fun v z => by rw [d] at z; cases z⟩
  keep := fun i h h' st k => let ⟨o, e, r⟩ := st; ⟨o, k it (by simp) o e, r⟩
  item := by
    intro X hP hw hK hc i pins s σ H E I hf st hg
    subst hP hw hK
    obtain ⟨f0, f1, f2, f3, f4, f5⟩ := hf it (by simp)
    refine (W X.A (I.ok.hd hc)).item i s _ _ hg st fun v h' tk hv st' kk => ?_
    obtain ⟨c, u, hcx, rfl⟩ := hv
    have I1 : Inv X pins σ H { s with heap := h', toks := tk } := I.turned (fun b o hb e => kk b o (by simpa using hb) e) f0 f1 f3 f4 f5
    obtain ⟨o, e, c', d⟩ := id st'
    exact ⟨_, rfl, go_of (s := { s with heap := h', toks := tk }) e c' d hty ⟨.str ⟨#[c]⟩, H, I1, ⟨u, rfl⟩, ⟨rfl, c, hcx, rfl⟩, st', fun b hb => (hf b hb).1⟩⟩
  done := by
    intro X hP hw hK hc i pins s σ H E I hf st hg
    subst hP hw hK
    obtain ⟨f0, f1, f2, f3, f4, f5⟩ := hf it (by simp)
    have hg' : i = x.cps.size := hg
    subst hg'
    exact (W X.A (I.ok.hd hc)).done s _ _ st fun h' tk kk => ⟨rfl, I.turned (fun b o hb e => kk b o (by simpa using hb) e) f0 f1 f3 f4 f5⟩
  self := self

section
variable {X : Cx} {tg : Expr}
noncomputable def iStr (tl : TE) : TI := fun σ H R => tl σ H fun x H1 => ∃ z, x = .str z ∧ R (Its z) H1
theorem pi_str {l : Expr} {tl : TE} (hl : PE X l tl) : PI X tg l (iStr tl) := by
  intro pins s σ H R I h
  refine thn (hl pins s σ H _ I h) fun v s1 hz39 => ?_
  obtain ⟨x, H1, I1, r1, q1⟩ := hz39
  obtain ⟨z, e, q⟩ := q1
  subst e
  obtain ⟨t, rfl⟩ := (show ∃ t, v = Value.str z t from r1)
  have fin : ∀ (o : Obj) (ty : String), o.cls = .type ty → o.data = .fields #[.str z t, .int 0 0] →
      ["enumerate", "zip", "dict_itemiterator", "dict_reverseitemiterator", "odict_iterator", "itertools.zip_longest", "itertools.pairwise"].contains ty = false →
      o.isFreed = false →
      (∀ A : Around, A.handled = none → Walks X.prog X.w A s1.heap.objs.size [s1.heap.objs.size] [s1.heap.objs.size] z.cps.size (SignAt z) (fun i h => h.IsStrIter s1.heap.objs.size ty z t i)) →
      (∀ (A : Around) (i : Nat) (s : Shared) (Q : Value → Shared → Prop) (E : Value → Shared → Prop), s.heap.IsStrIter s1.heap.objs.size ty z t i → Q (.ref s1.heap.objs.size) s → wpAny (model X.prog X.w) A (pyIter (.ref s1.heap.objs.size)) Q E s) →
      PIE X pins σ tg R (.ref s1.heap.objs.size) { s1 with heap := s1.heap.push o } := fun o ty h1 h2 h3 hfr W self => by
    refine ⟨s1.heap.objs.size, [s1.heap.objs.size], _, _, H1, rfl, I1.kept (t' := s1.toks) fun b o e => Heap.get?_push_of_some _ e, turn_str _ z t ty h3 W self, ⟨o, Heap.get?_push_size _ hfr, h1, h2⟩, fun b hb => ?_, q⟩
    have e : b = s1.heap.objs.size := by simpa using hb
    subst e
    exact I1.fpOk (Nat.le_refl _) (I1.hok.fresh (Nat.le_refl _))
  cases ha : z.cps.all (· < 128)
  · exact wpAny_pyIter_wide ha (fin _ "str_iterator" rfl rfl (by decide) rfl (fun A hA => Walks.strWide hA _ z t) fun _ _ _ _ _ st hQ => wpAny_pyIter_striter_wide st hQ)
  · exact wpAny_pyIter_ascii ha (fin _ "str_ascii_iterator" rfl rfl (by decide) rfl (fun A hA => Walks.strAscii hA _ z t) fun _ _ _ _ _ st hQ => wpAny_pyIter_striter_ascii st hQ)

/-! ### all, any of a list of truths -/
theorem in1_handled {A : Around} (h : A.handled = none) : A.in1.handled = none := h
theorem bools_get {ys : List Bool} {its : List Value} (r : Vals (ys.map V.bl) its) {i : Nat} {v : Value} (h : its[i]? = some v) : ∃ b, ys[i]? = some b ∧ v = .bool b := by
  have hl := r.length
  rw [List.length_map] at hl
  have hi : i < its.length := (List.getElem?_eq_some_iff.mp h).1
  obtain ⟨u, e1, e2⟩ := r.get (i := i) (x := V.bl (ys[i]'(by omega))) (by rw [List.getElem?_map, List.getElem?_eq_getElem (by omega)]; rfl)
  rw [h] at e1
  cases e1
  exact ⟨_, List.getElem?_eq_getElem (by omega), e2⟩
theorem range_all (ys : List Bool) : (List.range ys.length).all (fun i => ys.getD i false) = ys.all id := by
  have e : ys = (List.range ys.length).map (fun i => ys.getD i false) := by
    apply List.ext_getElem (by simp)
    intro i h1 h2
    simp [List.getD_eq_getElem?_getD, List.getElem?_eq_getElem h1]
  conv => rhs; rw [e]
  rw [List.all_map]; rfl
theorem call_all (hc : X.calm = true) : CallR X (.builtin "all") (fun xs H Q => ∃ (p : Addr) (ys : List Bool), xs = [.ref p] ∧ SqL X.K H p (ys.map V.bl) ∧ Q (.bl (ys.all id)) H) := by
  intro pins s σ H xs us Q I r h
  obtain ⟨p, ys, rfl, hq, q⟩ := h
  obtain ⟨u, rfl, ru⟩ := r.one
  cases ru
  obtain ⟨its, rv, pl, hz⟩ := I.list hq
  have hl := rv.length
  rw [List.length_map] at hl
  refine call_all_walk (wpAny_pyIter_list pl.isList ?_)
  have hp : p < s.heap.objs.size := by obtain ⟨o, ho, _⟩ := pl.isList; exact Heap.lt_size ho
  refine ⟨s.heap.objs.size, _, _, _, _, _, fun i => ys.getD i false, rfl, Walks.list (in1_handled (I.ok.hd hc)) _ p (Nat.ne_of_lt hp) its.toArray, ⟨⟨_, Heap.get?_push_size _ rfl, rfl, rfl⟩, ?_⟩, ?_, fun h' tk kk => ?_⟩
  · obtain ⟨o, ho, r⟩ := pl.isList
    exact ⟨o, Heap.get?_push_of_some _ ho, r⟩
  · intro i v s' Q' E' hP hQ
    obtain ⟨b, e1, rfl⟩ := bools_get rv (by simpa using hP)
    refine wpAny_truthy_bool ?_
    have e2 : ys.getD i false = b := by rw [List.getD_eq_getElem?_getD, e1]; rfl
    rw [← e2]; exact hQ
  · refine ⟨.bl (ys.all id), H, I.kept fun b o e => kk b o ?_ (Heap.get?_push_of_some _ e), ?_, q⟩
    · intro z; have z' : b = s.heap.objs.size := by simpa using z
      exact Nat.ne_of_lt (Heap.lt_size e) z'
    · have e3 : its.toArray.size = ys.length := by simp; omega
      rw [e3, range_all]; rfl
/-! ### isinstance(x, C) -/
/-- a class as a value: a built-in's, or an own one -/
theorem call_isinst : CallR X (.builtin "isinstance") (fun xs H Q => ∃ x t T b, xs = [x, .ty T] ∧ TyOf X.K H x t ∧ PySem.W.kitOne X.K t (.type T) = some b ∧ Q (.bl b) H) := by
  intro pins s σ H xs us Q I r h
  obtain ⟨x, t, T, b, rfl, ty, e, q⟩ := h
  obtain ⟨u, v, rfl, ru, rv⟩ := r.two
  cases rv
  exact isinst_ok I ru ty e fun tk => ⟨.bl b, H, I.tok tk, rfl, q⟩
/-! ### is, is not, beside True and False -/
/-! ### texts: slices, join, upper -/
noncomputable def rSlS : V → Option Int → Option Int → Hp → VK → Prop := fun x lo hi H Q => ∃ z, x = .str z ∧ z.length ≤ sizeLine ∧ Q (.str (Txt.slice z lo hi)) H
theorem sl_str : SlR X rSlS := by
  intro pins s σ H x v vl vu lo hi sl Q I rx hs pl pu h
  obtain ⟨z, rfl, hz, q⟩ := h
  obtain ⟨t, rfl⟩ := (show ∃ t, v = Value.str z t from rx)
  refine ⟨"str", _, F.slot_str_getitem.lookup, typeIs_str _ _ _, ?_⟩
  have key : ∀ (l u : Option (Int × Tok)), vl = partValue l → vu = partValue u → lo = l.map (·.1) → hi = u.map (·.1) →
      wpAny (model X.prog X.w) X.A (getItem (.str z t) (.ref sl)) (EP X pins σ Q) X.xe s := by
    intro l u e1 e2 e3 e4
    subst e1 e2
    refine wpAny_getItem_str_slice (l := l) (u := u) (st := none) hs rfl ?_
    unfold sliceMade
    have ee : Txt.slice z lo hi = if (((none : Option (Int × Tok)).map (·.1)).getD 1 == 1 && (slicePicked z l u none).length == z.length) = true then z else ⟨((slicePicked z l u none).filterMap (z.cps[·]?)).toArray⟩ := by
      rw [e3, e4]; rfl
    split
    · rename_i c
      rw [if_pos c] at ee
      rw [ee] at q
      exact ⟨.str z, H, I, ⟨t, rfl⟩, q⟩
    · rename_i c
      rw [if_neg c] at ee
      rw [ee] at q
      have hle := Txt.slice_le z lo hi
      rw [ee] at hle
      exact ⟨Nat.le_trans hle hz, .str _, H, I.tok _, ⟨_, rfl⟩, q⟩
  cases pl with
  | none =>
    cases pu with
    | none => exact key none none rfl rfl rfl rfl
    | int j tj => exact key none (some (j, tj)) rfl rfl rfl rfl
  | int i ti =>
    cases pu with
    | none => exact key (some (i, ti)) none rfl rfl rfl rfl
    | int j tj => exact key (some (i, ti)) (some (j, tj)) rfl rfl rfl rfl
theorem strs_of : ∀ {ys : List Str} {us : List Value}, Vals (ys.map V.str) us → StrsAre us ys
  | [], _, .nil => .nil
  | y :: ys, _, .cons r t => by
    obtain ⟨k, rfl⟩ := r
    exact .cons y k (strs_of t)
theorem mt_join : MtR X "str.join" (fun x xs H Q => ∃ (z : Str) (p : Addr) (ys : List Str), x = .str z ∧ xs = [.ref p] ∧ SqL X.K H p (ys.map V.str) ∧ (ys.map (·.length)).sum + ys.length * z.length ≤ 16777216 ∧ Q (.str (Txt.join z ys)) H) := by
  intro pins s σ H x xs v us Q I rx rs h
  obtain ⟨z, p, ys, rfl, rfl, hq, hz, q⟩ := h
  obtain ⟨t, rfl⟩ := (show ∃ t, v = Value.str z t from rx)
  obtain ⟨u, rfl, ru⟩ := rs.one
  cases ru
  obtain ⟨its, rv, pl, hl⟩ := I.list hq
  exact join_list pl.isList (strs_of (by simpa using rv)) hz fun t' k => ⟨.str _, H, I.tok k, ⟨t', rfl⟩, q⟩
/-! ### // by a greater number -/
theorem op_fdivB : OpR X (binaryOp .FloorDiv) (rI (fun _ j => 0 < j ∧ j < 2 ^ 62) fun i j => .int (i / j)) := opI fun i j _ _ _ _ _ hc q => by
  have hp : (0 : Int) < j := hc.1
  have hq : j < 2 ^ 62 := hc.2
  have hlog : j.natAbs.log2 < 9000 := by
    have h1 : j.natAbs ≠ 0 := by omega
    have h2 : j.natAbs.log2 < 62 := (Nat.log2_lt h1).mpr (by omega)
    omega
  exact floordiv_int (by omega) (by rw [Int.fdiv_eq_ediv_of_nonneg i (by omega)]; exact q) (.inl (PyProof.noPylong_of_log2 hlog))
end
end L2

set_option Elab.async false
set_option linter.all false
set_option maxRecDepth 100000
set_option maxHeartbeats 4000000
namespace L2
open PySem PySem.Spec PyProof.Rows

/-! ### a def of the file's top, by its name -/
structure FunG (K : PySem.W.Frag) (mg : Str → Option Value) (x : Str) (st : Stmt) (ps : List Str) : Prop where
  ex : ∃ (f : Addr) (fd : FuncData), Fun K x x st f fd ∧ mg x = some (.ref f) ∧ Binds K fd ps []
/-- what a caller of it wants -/
structure Cal (P : Program) (w : World) (K : PySem.W.Frag) (mg : Str → Option Value) (base : Heap) (CX : CXT) (k : Nat) (x : Str) (ps : List Str) (sp : Sp) : Prop where
  ex : ∃ (f : Addr) (fd : FuncData), FnOk P w K mg base CX k f fd ps sp ∧ mg x = some (.ref f) ∧ PySem.W.keepIn K (.ref f) = true ∧ Binds K fd ps []
section
variable {P : Program} {w : World} {K : PySem.W.Frag} {mg : Str → Option Value} {base : Heap}
theorem FunG.ok {x : Str} {st : Stmt} {N ps : List Str} {k : Nat} {sp : Sp} (G : FunG K mg x st ps) (S : FnScope N ps (defScope st)) (len : ∀ vs H Q E, sp vs H Q E → vs.length = ps.length)
    (hbody : ∀ (f : Addr) (cdv : Value) (A : Around) (outer : List Env) (s : Shared) (H : Hp) (vs : List V) (Q : VK) (E : XK), Room k (A.deeper (envOfC x (defScope st) s.heap.objs.size f cdv)) → sp vs H Q E →
      ∃ t, PSs (cxOf CX0 P w K mg base N x (defScope st) f cdv A outer s H E).nox (defBody st) t ∧ t { nx := fun _ H' => Q .non H', rt := Q } (start N vs) H) : Cal P w K mg base CX0 (k + 1) x ps sp := by
  obtain ⟨f, fd, F, hm, hb⟩ := G.ex
  exact ⟨f, fd, F.ok S len fun cdv A outer s H vs Q E hr h => hbody f cdv A outer s H vs Q E hr h, hm, F.kp, hb⟩
theorem funG_mk {h : Heap} {x : Str} {st : Stmt} {f : Addr} {oc : Value} {od an : Option Addr} {osl : Array (Option Value)} {kV doc pm cdv ct : Value} {ps : List Str} (X : K.In h) (G : h.Ns mainGlobals mg)
    (a : PySem.W.nsIn K mainGlobals x = some (some (.ref f)))
    (l : K.lookup f = some ⟨oc, od, .func (PySem.W.fnOf x x (defArgs st) (defBody st) (defScope st) .none kV doc pm an cdv ct), osl⟩) (c : PySem.W.codeIn K cdv x = true) (k : PySem.W.keepIn K (.ref f) = true)
    (hb : ∀ (kV doc pm : Value) (an : Option Addr) (cdv ct : Value) (us : List Value), us.length = ps.length → bindArgs (PySem.W.fnOf x x (defArgs st) (defBody st) (defScope st) .none kV doc pm an cdv ct) ⟨us, []⟩ = pure (ps.zip us)) : FunG K mg x st ps :=
  ⟨f, _, fun_mk l c k, PySem.W.mg_of X G a, (fun_mk l c k).binds hb⟩
end
section
variable {X : Cx} {CX : CXT} {k : Nat} {ps : List Str} {sp : Sp} {E : XK} {x : Str} {p pos : Pos} {e : Expr} {es : List Expr} {t : TA}
theorem pe_cal (C : Cal X.prog X.w X.K X.mg X.base CX0 k x ps sp) (hr : Room k X.A) (ha : PA X (e :: es) t) (hg : Gl X x := by rfl)
    (hdb : (x == ("__debug__" : Str)) = false := by decide) (he : starEach (e :: es) X.env = (false, eval e X.env) :: starEach es X.env := by rfl) (hpl : (backTo pos (starEach es X.env)).any (·.1) = false := by rfl) :
    PE X (.Call (.Name x p) (e :: es) [] pos) (tCall sp [] E0 t) :=
  let ⟨_, _, F, hm, hk, hb⟩ := C.ex
  pe_call F hr hg hm hk hb .nil pass0 ha hdb he hpl
theorem pe_cal0 (C : Cal X.prog X.w X.K X.mg X.base CX0 k x ps sp) (hr : Room k X.A) (hg : Gl X x := by rfl)
    (hdb : (x == ("__debug__" : Str)) = false := by decide) : PE X (.Call (.Name x p) [] [] pos) (tCall sp [] E0 tNil) :=
  let ⟨_, _, F, hm, hk, hb⟩ := C.ex
  pe_call0 F hr hg hm hk hb .nil pass0 hdb
/-- a built-in by its name -/
structure Blt (mg : Str → Option Value) (x : Str) : Prop where
  no : mg x = none
theorem pe_blt {id : String} {r : List V → Hp → VK → Prop} (hc : CallR X (.builtin id) r) (b : Blt X.mg x) (hv : bootBuiltins x = some (.builtin id)) (ha : PA X (e :: es) t) (hg : Gl X x := by rfl) (hn : x ≠ "__name__" := by decide) (hdb : (x == ("__debug__" : Str)) = false := by decide)
    (he : starEach (e :: es) X.env = (false, eval e X.env) :: starEach es X.env := by rfl) (hpl : (backTo pos (starEach es X.env)).any (·.1) = false := by rfl) :
    PE X (.Call (.Name x p) (e :: es) [] pos) (tCB r t) := pe_callB hc hg b.no hv ha hn hdb he hpl
theorem pe_ty {T : String} (b : Blt X.mg x) (hv : bootBuiltins x = some (.type T)) (hg : Gl X x := by rfl) (hn : x ≠ "__name__" := by decide) (hd : (x == ("__debug__" : Str)) = false := by decide) : PE X (.Name x pos) (tC (.ty T)) :=
  pe_bltn hg b.no hv rfl hn hd
end
/-! ### heaps that are kept but at some places -/
noncomputable def Keep (S : List Addr) (H H' : Hp) : Prop := ∀ b o, b ∉ S → H b = some o → H' b = some o
theorem Keep.refl {S : List Addr} (H : Hp) : Keep S H H := fun _ _ _ h => h
theorem Keep.trans {S : List Addr} {H H1 H2 : Hp} (a : Keep S H H1) (b : Keep S H1 H2) : Keep S H H2 := fun c o n h => b c o n (a c o n h)
theorem Keep.mono {S S' : List Addr} {H H1 : Hp} (a : Keep S H H1) (h : ∀ b ∈ S, b ∈ S') : Keep S' H H1 := fun c o n q => a c o (fun z => n (h c z)) q
theorem Keep.new {S : List Addr} {H : Hp} {p : Addr} {o : HO} (h : H p = none) : Keep S H (upd H p o) := fun b u _ q => by rw [upd_ne (ne_of_none q h)]; exact q
theorem Keep.at {S : List Addr} {H : Hp} {p : Addr} {o : HO} (h : p ∈ S) : Keep S H (upd H p o) := fun b u n q => by
  rw [upd_ne (fun z => n (by rw [z]; exact h))]; exact q
theorem Keep.none {S : List Addr} {H H' : Hp} (k : Keep S H H') {l : Addr} (n : l ∉ S) (h : H' l = Option.none) : H l = Option.none := by
  cases q : H l with
  | none => rfl
  | some o => rw [k l o n q] at h; cases h
theorem Keep.same {H H' : Hp} (k : Keep [] H H') : Same H H' := fun b o h => k b o (by simp) h
/-- a thing of a wide value: what isinstance sees of it -/
theorem Keep.seq {K : PySem.W.Frag} {H H' : Hp} {a : Addr} {xs : List V} (k : Keep [] H H') (h : SqL K H a xs) : SqL K H' a xs := k.same.seq h

/-! ### comprehensions by turns -/
theorem lc_by {J : It} {xs : List Str} {ix : List Nat} {g : TG} {tt : TT} {te : TE} {n : Nat} {σ : St} {H1 : Hp} {Q : VK} {acc : Addr} (hn : n < sizeLine) (item : Nat → V) (Pv : Nat → List V → St → Hp → Prop)
    (h0 : Pv 0 [] (stC xs ix σ) (upd H1 acc (.lst [])))
    (hacc : ∀ i ys τ H, Pv i ys τ H → H acc = some (.lst ys) ∧ ys.length ≤ i)
    (hgo : ∀ i ys τ H, i < n → Pv i ys τ H → J.go i H) (hyl : ∀ i ys τ H x H', i < n → Pv i ys τ H → J.yld i H x H' → H' = H ∧ x = item i) (hst : ∀ ys τ H, Pv n ys τ H → J.stop n H)
    (hs : ∀ i ys τ H, i < n → Pv i ys τ H → g (item i) τ H fun τ2 H2 => tt τ2 H2 fun b H3 =>
      if b = true then te τ2 H3 fun y H4 => H4 acc = some (.lst ys) ∧ Pv (i + 1) (ys ++ [y]) τ2 (upd H4 acc (.lst (ys ++ [y]))) else Pv (i + 1) ys τ2 H3)
    (hd : ∀ ys τ H, Pv n ys τ H → Q (.ref acc) H) :
    LCW J xs ix g tt te σ H1 acc Q := by
  refine ⟨fun i m ys τ H => m = n - i ∧ i ≤ n ∧ Pv i ys τ H, ⟨n, by simp, Nat.zero_le _, h0⟩, ?_⟩
  rintro i m ys τ H ⟨rfl, hi, p⟩
  obtain ⟨a1, a2⟩ := hacc i ys τ H p
  refine ⟨a1, by omega, ?_⟩
  by_cases hlt : i < n
  · refine .inr ⟨hgo i ys τ H hlt p, Pv (i + 1), fun ys' τ' H' p' => ⟨n - (i + 1), by omega, rfl, hlt, p'⟩, fun x H' y => ?_⟩
    obtain ⟨rfl, rfl⟩ := hyl i ys τ H x H' hlt p y
    exact hs i ys τ _ hlt p
  · have e : i = n := by omega
    subst e
    exact .inl ⟨hst ys τ H p, hd ys τ H p⟩

theorem lc_range {xs : List Str} {ix : List Nat} {g : TG} {tt : TT} {te : TE} {lo : Int} {n : Nat} {σ : St} {H1 : Hp} {Q : VK} {acc : Addr} (hn : n < sizeLine) (Pv : Nat → List V → St → Hp → Prop)
    (h0 : Pv 0 [] (stC xs ix σ) (upd H1 acc (.lst [])))
    (hacc : ∀ i ys τ H, Pv i ys τ H → H acc = some (.lst ys) ∧ ys.length ≤ i)
    (hs : ∀ i ys τ H, i < n → Pv i ys τ H → g (.int (lo + i)) τ H fun τ2 H2 => tt τ2 H2 fun b H3 =>
      if b = true then te τ2 H3 fun y H4 => H4 acc = some (.lst ys) ∧ Pv (i + 1) (ys ++ [y]) τ2 (upd H4 acc (.lst (ys ++ [y]))) else Pv (i + 1) ys τ2 H3)
    (hd : ∀ ys τ H, Pv n ys τ H → Q (.ref acc) H) :
    LCW (Itr lo n) xs ix g tt te σ H1 acc Q :=
  lc_by hn (fun i => .int (lo + i)) Pv h0 hacc (fun i _ _ _ h _ => h) (fun i _ _ _ _ _ _ _ h => h) (fun _ _ _ _ => Nat.le_refl n) hs hd
theorem lc_str {xs : List Str} {ix : List Nat} {g : TG} {tt : TT} {te : TE} {z : Str} {σ : St} {H1 : Hp} {Q : VK} {acc : Addr} (hn : z.cps.size < sizeLine) (Pv : Nat → List V → St → Hp → Prop)
    (h0 : Pv 0 [] (stC xs ix σ) (upd H1 acc (.lst [])))
    (hacc : ∀ i ys τ H, Pv i ys τ H → H acc = some (.lst ys) ∧ ys.length ≤ i)
    (hs : ∀ i ys τ H, i < z.cps.size → Pv i ys τ H → g (.str ⟨#[z.cps.getD i 0]⟩) τ H fun τ2 H2 => tt τ2 H2 fun b H3 =>
      if b = true then te τ2 H3 fun y H4 => H4 acc = some (.lst ys) ∧ Pv (i + 1) (ys ++ [y]) τ2 (upd H4 acc (.lst (ys ++ [y]))) else Pv (i + 1) ys τ2 H3)
    (hd : ∀ ys τ H, Pv z.cps.size ys τ H → Q (.ref acc) H) :
    LCW (Its z) xs ix g tt te σ H1 acc Q :=
  lc_by hn (fun i => .str ⟨#[z.cps.getD i 0]⟩) Pv h0 hacc (fun i _ _ _ h _ => h) (fun i _ _ _ x H' _ _ h => ⟨h.1, by
    obtain ⟨_, c, e, ex⟩ := h
    rw [ex, show z.cps.getD i 0 = c by rw [Array.getD_eq_getD_getElem?, e]; rfl]⟩) (fun _ _ _ _ => rfl) hs hd
theorem lc_list {K : PySem.W.Frag} {a : Addr} {its : List V} {xs : List Str} {ix : List Nat} {g : TG} {tt : TT} {te : TE} {σ : St} {H1 : Hp} {Q : VK} {acc : Addr} (hn : its.length < sizeLine) (Pv : Nat → List V → St → Hp → Prop)
    (h0 : Pv 0 [] (stC xs ix σ) (upd H1 acc (.lst [])))
    (hacc : ∀ i ys τ H, Pv i ys τ H → H acc = some (.lst ys) ∧ ys.length ≤ i ∧ SqL K H a its)
    (hs : ∀ i ys τ H x, its[i]? = some x → Pv i ys τ H → g x τ H fun τ2 H2 => tt τ2 H2 fun b H3 =>
      if b = true then te τ2 H3 fun y H4 => H4 acc = some (.lst ys) ∧ Pv (i + 1) (ys ++ [y]) τ2 (upd H4 acc (.lst (ys ++ [y]))) else Pv (i + 1) ys τ2 H3)
    (hd : ∀ ys τ H, Pv its.length ys τ H → Q (.ref acc) H) :
    LCW (Itl K a) xs ix g tt te σ H1 acc Q := by
  refine lc_by hn (fun i => its.getD i .non) Pv h0 (fun i ys τ H p => ⟨(hacc i ys τ H p).1, (hacc i ys τ H p).2.1⟩) (fun i ys τ H h p => ⟨its, its[i], (hacc i ys τ H p).2.2, by simp [h]⟩)
    (fun i ys τ H x H' h p y => ⟨y.1, ?_⟩) (fun ys τ H p => ⟨its, (hacc _ ys τ H p).2.2, Nat.le_refl _⟩) (fun i ys τ H h p => hs i ys τ H _ (by simp [List.getD_eq_getElem?_getD, h]) p) hd
  have e := y.2 its (hacc i ys τ H p).2.2
  rw [List.getD_eq_getElem?_getD, e]; rfl

/-! ### .. without a test -/
theorem yes_in {g : TG} {te : TE} {x : V} {τ : St} {H : Hp} {R : St → Hp → VK} {N : St → Hp → Prop} (h : g x τ H fun τ2 H2 => te τ2 H2 (R τ2 H2)) :
    g x τ H fun τ2 H2 => tYes τ2 H2 fun b H3 => if b = true then te τ2 H3 (R τ2 H3) else N τ2 H3 := by
  have e : (fun τ2 H2 => tYes τ2 H2 fun b H3 => if b = true then te τ2 H3 (R τ2 H3) else N τ2 H3) = fun τ2 H2 => te τ2 H2 (R τ2 H2) := by
    funext τ2 H2
    show (if true = true then te τ2 H2 (R τ2 H2) else N τ2 H2) = _
    rw [if_pos rfl]
  rw [e]; exact h
theorem lc_range0 {xs : List Str} {ix : List Nat} {g : TG} {te : TE} {lo : Int} {n : Nat} {σ : St} {H1 : Hp} {Q : VK} {acc : Addr} (hn : n < sizeLine) (Pv : Nat → List V → St → Hp → Prop)
    (h0 : Pv 0 [] (stC xs ix σ) (upd H1 acc (.lst [])))
    (hacc : ∀ i ys τ H, Pv i ys τ H → H acc = some (.lst ys) ∧ ys.length ≤ i)
    (hs : ∀ i ys τ H, i < n → Pv i ys τ H → g (.int (lo + i)) τ H fun τ2 H2 => te τ2 H2 fun y H4 => H4 acc = some (.lst ys) ∧ Pv (i + 1) (ys ++ [y]) τ2 (upd H4 acc (.lst (ys ++ [y]))))
    (hd : ∀ ys τ H, Pv n ys τ H → Q (.ref acc) H) : LCW (Itr lo n) xs ix g tYes te σ H1 acc Q :=
  lc_range hn Pv h0 hacc (fun i ys τ H hi p => yes_in (R := fun τ2 _ => fun y H4 => H4 acc = some (.lst ys) ∧ Pv (i + 1) (ys ++ [y]) τ2 (upd H4 acc (.lst (ys ++ [y])))) (hs i ys τ H hi p)) hd
theorem lc_str0 {xs : List Str} {ix : List Nat} {g : TG} {te : TE} {z : Str} {σ : St} {H1 : Hp} {Q : VK} {acc : Addr} (hn : z.cps.size < sizeLine) (Pv : Nat → List V → St → Hp → Prop)
    (h0 : Pv 0 [] (stC xs ix σ) (upd H1 acc (.lst [])))
    (hacc : ∀ i ys τ H, Pv i ys τ H → H acc = some (.lst ys) ∧ ys.length ≤ i)
    (hs : ∀ i ys τ H, i < z.cps.size → Pv i ys τ H → g (.str ⟨#[z.cps.getD i 0]⟩) τ H fun τ2 H2 => te τ2 H2 fun y H4 => H4 acc = some (.lst ys) ∧ Pv (i + 1) (ys ++ [y]) τ2 (upd H4 acc (.lst (ys ++ [y]))))
    (hd : ∀ ys τ H, Pv z.cps.size ys τ H → Q (.ref acc) H) : LCW (Its z) xs ix g tYes te σ H1 acc Q :=
  lc_str hn Pv h0 hacc (fun i ys τ H hi p => yes_in (R := fun τ2 _ => fun y H4 => H4 acc = some (.lst ys) ∧ Pv (i + 1) (ys ++ [y]) τ2 (upd H4 acc (.lst (ys ++ [y])))) (hs i ys τ H hi p)) hd
theorem lc_list0 {K : PySem.W.Frag} {a : Addr} {its : List V} {xs : List Str} {ix : List Nat} {g : TG} {te : TE} {σ : St} {H1 : Hp} {Q : VK} {acc : Addr} (hn : its.length < sizeLine) (Pv : Nat → List V → St → Hp → Prop)
    (h0 : Pv 0 [] (stC xs ix σ) (upd H1 acc (.lst [])))
    (hacc : ∀ i ys τ H, Pv i ys τ H → H acc = some (.lst ys) ∧ ys.length ≤ i ∧ SqL K H a its)
    (hs : ∀ i ys τ H x, its[i]? = some x → Pv i ys τ H → g x τ H fun τ2 H2 => te τ2 H2 fun y H4 => H4 acc = some (.lst ys) ∧ Pv (i + 1) (ys ++ [y]) τ2 (upd H4 acc (.lst (ys ++ [y]))))
    (hd : ∀ ys τ H, Pv its.length ys τ H → Q (.ref acc) H) : LCW (Itl K a) xs ix g tYes te σ H1 acc Q :=
  lc_list hn Pv h0 hacc (fun i ys τ H x hi p => yes_in (R := fun τ2 _ => fun y H4 => H4 acc = some (.lst ys) ∧ Pv (i + 1) (ys ++ [y]) τ2 (upd H4 acc (.lst (ys ++ [y])))) (hs i ys τ H x hi p)) hd
end L2
namespace L2
open PySem PySem.Spec PyProof.Rows
/-! ### the same rules, the list or tuple known to the heap (so that a simplifier finds it) -/
section
variable {X : Cx}
noncomputable def rIxH : R2 := fun x y H Q => ∃ p xs i v, x = .ref p ∧ y = .int i ∧ H p = some (.lst xs) ∧ atI xs i = some v ∧ Q v H
theorem ix_lstH : IxR X rIxH := fun value slice pins s σ H x y v u Q I rx ry hz hs => by
  obtain ⟨p, xs, i, z, a, b, c, d, e⟩ := hz
  exact ix_list value slice pins s σ H x y v u Q I rx ry ⟨p, xs, i, z, a, b, .of c, d, e⟩ hs
noncomputable def rIxTH : R2 := fun x y H Q => ∃ p xs i v, x = .ref p ∧ y = .int i ∧ H p = some (.tup xs) ∧ atI xs i = some v ∧ Q v H
theorem ix_tupH : IxR X rIxTH := fun value slice pins s σ H x y v u Q I rx ry hz hs => by
  obtain ⟨p, xs, i, z, a, b, c, d, e⟩ := hz
  exact ix_tup value slice pins s σ H x y v u Q I rx ry ⟨p, xs, i, z, a, b, .of c, d, e⟩ hs
end
end L2

set_option Elab.async false
set_option linter.all false
set_option maxRecDepth 100000
set_option maxHeartbeats 4000000
namespace L2
open PySem PySem.Spec PyProof.Rows

/-- what a comprehension's scope must be like, closed -/
noncomputable def CompS (N : List Str) (sc : Scope) (xs : List Str) (ix : List Nat) (scope : Scope) : Prop :=
  scope.kind = .function ∧ (∀ y ∈ scope.names, y.2 ≠ .cell) ∧ (∀ y ∈ scope.names, y.2 = .local → scope.names.lookup y.1 = some .local) ∧
  (∀ y ∈ scope.names, y.2 = .free → sc.names.lookup y.1 = some .cell ∨ sc.names.lookup y.1 = some .free) ∧ (∀ x ∈ xs, scope.names.lookup x = some .local) ∧
  (xs ++ ix.map (fun i => N.getD i "")).Nodup ∧ (∀ i ∈ ix, i < N.length) ∧ (∀ i ∈ ix, scope.names.lookup (N.getD i "") = some .free)
instance {N : List Str} {sc : Scope} {xs : List Str} {ix : List Nat} {scope : Scope} : Decidable (CompS N sc xs ix scope) := by unfold CompS; infer_instance
theorem CompS.at {X : Cx} {N : List Str} {sc : Scope} {xs : List Str} {ix : List Nat} {scope : Scope} (S : CompS N sc xs ix scope) (hN : X.N = N) (hsc : X.env.scope = sc) : CompScope X xs ix scope := by
  obtain ⟨a, b, c, d, e, f, g, h⟩ := S
  subst hN hsc
  exact ⟨a, b, c, fun n hn => d (n, .free) hn rfl, e, f, g, h⟩
/-- [elt for x in iter if ..] -/
theorem pe_lc1 {X : Cx} {N : List Str} {sc : Scope} {x : Str} {ix : List Nat} {scope : Scope} {elt iter : Expr} {ifs : List Expr} {px pos : Pos} {wi : TI} {tt : TT} {te : TE}
    (hS : CompS N sc [x] ix scope) (hi : PI X (.Name x px) iter wi)
    (ht : ∀ C fp s H, PTs (cxC X [x] ix scope C fp s H) ifs tt) (he : ∀ C fp s H, PE (cxC X [x] ix scope C fp s H) elt te)
    (hN : X.N = N := by rfl) (hsc : X.env.scope = sc := by rfl) (hc : X.calm = true := by rfl)
    (hs : ∀ x, foldedSetIterable iter X.env x = pure x := by intro _; rfl) :
    PE X (.ListComp elt [⟨.Name x px, iter, ifs, 0⟩] scope pos) (tLC [x] ix wi (gName 0) tt te) := by
  have S := hS.at (X := X) hN hsc
  have hl : ∀ C fp s H, (cxC X [x] ix scope C fp s H).env.scope.names.lookup x = some .local := fun _ _ _ _ => lookup_relabel_local (S.own x (by simp))
  exact pe_lc S hc hi (fun C fp s H => pg_name S.nd rfl (Or.inl (hl C fp s H)) (.inr (hl C fp s H))) ht he hs
/-- y = [elt for x in iter if ..] -/
theorem ps_setLC1 {X : Cx} {N : List Str} {sc : Scope} {x y : Str} {ix : List Nat} {scope : Scope} {elt iter : Expr} {ifs : List Expr} {px cpos pos pos' : Pos} {wi : TI} {tt : TT} {te : TE} {i : Nat}
    (hN' : X.N.Nodup) (hin : X.N[i]? = some y) (hx : Loc X.env.scope y)
    (hS : CompS N sc [x] ix scope) (hi : PI X (.Name x px) iter wi)
    (ht : ∀ C fp s H, PTs (cxC X [x] ix scope C fp s H) ifs tt) (he : ∀ C fp s H, PE (cxC X [x] ix scope C fp s H) elt te)
    (hN : X.N = N := by rfl) (hsc : X.env.scope = sc := by rfl) (hc : X.calm = true := by rfl)
    (hsw : swapsWith (.ListComp elt [⟨.Name x px, iter, ifs, 0⟩] scope cpos) (some (.Name y pos')) pos.line X.env = pure true := by rfl)
    (hf : X.fn y = true ∨ X.env.scope.names.lookup y = some .local := by first | exact .inl rfl | exact .inr rfl | assumption)
    (hs : ∀ x, foldedSetIterable iter X.env x = pure x := by intro _; rfl) :
    PS X (.Assign [.Name y pos'] (.ListComp elt [⟨.Name x px, iter, ifs, 0⟩] scope cpos) pos) (tAsg (tLC [x] ix wi (gName 0) tt te) (gName i)) := by
  have S := hS.at (X := X) hN hsc
  have hl : ∀ C fp s H, (cxC X [x] ix scope C fp s H).env.scope.names.lookup x = some .local := fun _ _ _ _ => lookup_relabel_local (S.own x (by simp))
  exact ps_setLC hN' hin hx S hc hi (fun C fp s H => pg_name S.nd rfl (Or.inl (hl C fp s H)) (.inr (hl C fp s H))) ht he hsw hf hs
theorem len_app (x y : Str) : (x ++ y).length = x.length + y.length := by
  show (x.cps ++ y.cps).size = _
  simp [Str.length]
end L2
namespace L2
open PySem PySem.Spec PyProof.Rows
theorem Keep.drop {S : List Addr} {H H' : Hp} {a : Addr} (k : Keep (a :: S) H H') (h : H a = Option.none) : Keep S H H' := fun b o n q => k b o (fun z => (List.mem_cons.mp z).elim (fun e => by rw [e, h] at q; cases q) n) q
theorem upd_none {H : Hp} {p a : Addr} {o : HO} (h : upd H p o a = Option.none) : H a = Option.none ∧ a ≠ p := by
  by_cases e : a = p
  · rw [e, upd_same] at h; cases h
  · rw [upd_ne e] at h; exact ⟨h, e⟩
theorem join_len (ys : List Str) : (Txt.join (Str.ofString "") ys).length = (ys.map (·.length)).sum := by
  show (Builtin.Str.glued (Str.ofString "") ys).length = _
  rw [size_glued]
  show _ + (ys.length - 1) * 0 = _
  omega
theorem sum_ones : ∀ (ys : List Str), (∀ z ∈ ys, z.length = 1) → (ys.map (·.length)).sum = ys.length
  | [], _ => rfl
  | y :: ys, h => by
    rw [List.map_cons, List.sum_cons, h y List.mem_cons_self, sum_ones ys fun z hz => h z (List.mem_cons_of_mem _ hz), List.length_cons]
    omega
end L2
namespace L2
theorem atI_in {α : Type} {xs : List α} {i : Int} (h0 : 0 ≤ i) (h1 : i < xs.length) : ∃ v, atI xs i = some v ∧ xs[i.toNat]? = some v := by
  have hl : i.toNat < xs.length := by omega
  refine ⟨xs[i.toNat], ?_, List.getElem?_eq_getElem hl⟩
  have e := atI_nat (List.getElem?_eq_getElem hl)
  rwa [Int.toNat_of_nonneg h0] at e
end L2
namespace L2
open PySem PySem.Spec PyProof.Rows
/-- a value of the file's top -/
structure Glo (mg : Str → Option Value) (x : Str) (v : V) : Prop where
  ex : ∃ u, mg x = some u ∧ RelV v u
theorem pe_glo {X : Cx} {x : Str} {v : V} {pos : Pos} (g : Glo X.mg x v) (hg : Gl X x := by rfl) (hd : (x == ("__debug__" : Str)) = false := by decide) : PE X (.Name x pos) (tC v) :=
  let ⟨_, hm, r⟩ := g.ex
  pe_glob hg hm r hd
/-- things of the built-in kinds -/
inductive PlainT (K : PySem.W.Frag) (H : Hp) : V → String → Prop where
  | non : PlainT K H .non "NoneType"
  | bl (x : Bool) : PlainT K H (.bl x) "bool"
  | int (i : Int) : PlainT K H (.int i) "int"
  | str (x : Str) : PlainT K H (.str x) "str"
  | lst {a : Addr} {xs : List V} (e : H a = some (.lst xs)) : PlainT K H (.ref a) "list"
  | tup {a : Addr} {xs : List V} (e : H a = some (.tup xs)) : PlainT K H (.ref a) "tuple"
  | dK {a : Addr} {kvs : List (Key × V)} (e : H a = some (.dK kvs)) : PlainT K H (.ref a) "dict"
theorem PlainT.ty {K : PySem.W.Frag} {H : Hp} {x : V} {T : String} (h : PlainT K H x T) : TyOf K H x (.type T) := by
  cases h with
  | non => exact .non
  | bl b => exact .bl b
  | int i => exact .int i
  | str z => exact .str z
  | lst e => exact .lst e
  | tup e => exact .tup e
  | dK e => exact .dK e
theorem PlainT.kit {K : PySem.W.Frag} {H : Hp} {x : V} {T : String} (h : PlainT K H x T) : PySem.W.kitOne K (.type T) (.type "str") = some (T == "str") ∧ PySem.W.kitOne K (.type T) (.type "int") = some (T == "int" || T == "bool") ∧
    PySem.W.kitOne K (.type T) (.type "bool") = some (T == "bool") ∧ PySem.W.kitOne K (.type T) (.type "list") = some (T == "list") ∧ PySem.W.kitOne K (.type T) (.type "tuple") = some (T == "tuple") := by
  cases h <;> exact ⟨rfl, rfl, rfl, rfl, rfl⟩
theorem PlainT.keep {K : PySem.W.Frag} {H H' : Hp} {x : V} {T : String} (h : PlainT K H x T) (k : Keep [] H H') : PlainT K H' x T := by
  cases h with
  | non => exact .non
  | bl b => exact .bl b
  | int i => exact .int i
  | str z => exact .str z
  | lst e => exact .lst (k _ _ (by simp) e)
  | tup e => exact .tup (k _ _ (by simp) e)
  | dK e => exact .dK (k _ _ (by simp) e)
/-- the letters -/
noncomputable abbrev abc : Str := "abcdefghijklmnopqrstuvwxyz"
noncomputable def letterB (c : Nat) : Bool := !(Builtin.Str.occurrences abc ⟨#[c]⟩ 0 abc.length 1).isEmpty
noncomputable def nameS (z : Str) : Bool := decide (1 ≤ z.length) && decide (z.length ≤ 8) && z.cps.toList.all letterB
noncomputable def nameV : V → Bool
  | .str z => nameS z
  | _ => false
noncomputable def wholeV : V → Bool
  | .int _ => true
  | _ => false
theorem all_map_id {α : Type} (l : List α) (f : α → Bool) : (l.map f).all id = l.all f := by rw [List.all_map]; rfl
end L2
namespace L2
open PySem
theorem bo_isinstance : bootBuiltins "isinstance" = some (.builtin "isinstance") := by decide +kernel
theorem bo_len : bootBuiltins "len" = some (.builtin "len") := by decide +kernel
theorem bo_all : bootBuiltins "all" = some (.builtin "all") := by decide +kernel
theorem bo_str : bootBuiltins "str" = some (.type "str") := by decide +kernel
theorem bo_bool : bootBuiltins "bool" = some (.type "bool") := by decide +kernel
theorem bo_list : bootBuiltins "list" = some (.type "list") := by decide +kernel
theorem bo_tuple : bootBuiltins "tuple" = some (.type "tuple") := by decide +kernel
end L2
namespace L2
theorem ifF {c : Bool} {A B : Prop} (h : c = false) (k : B) : if c = true then A else B := by rw [h]; exact iteF k
theorem ifT {c : Bool} {A B : Prop} (h : c = true) (k : A) : if c = true then A else B := by rw [h]; exact iteT k
end L2

set_option Elab.async false
set_option linter.all false
set_option maxRecDepth 100000
set_option maxHeartbeats 4000000
namespace L2
open PySem PySem.Spec PyProof.Rows

/-! ### == of tuples of flat values -/
noncomputable def eqT (xs ys : List V) : Bool := xs.length == ys.length && (List.zipWith eqV xs ys).all id
theorem eqV_refl {x : V} (f : flatV x = true) : eqV x x = true := by
  cases x with
  | non => rfl
  | bl b => cases b <;> rfl
  | int i => show (i == i) = true; simp
  | str z => show (z == z) = true; simp
  | _ => exact absurd (show false = true from f) Bool.false_ne_true
section
variable {X : Cx}
/-- a list of tuples -/
noncomputable def Rows (H : Hp) (p : Addr) (rows : List (List V)) : Prop := ∃ ps : List Addr, H p = some (.lst (ps.map V.ref)) ∧ Paired (fun q r => H q = some (.tup r)) ps rows
theorem paired_get {α β : Type} {F : α → β → Prop} {xs : List α} {ys : List β} (h : Paired F xs ys) : ∀ (i : Nat) (x : α), xs[i]? = some x → ∃ y, ys[i]? = some y ∧ F x y := by
  induction h with
  | nil => intro i x h; simp at h
  | cons r _ ih =>
    intro i x h
    cases i with
    | zero => simp at h; subst h; exact ⟨_, rfl, r⟩
    | succ i =>
      obtain ⟨y, h1, h2⟩ := ih i x (by simpa using h)
      exact ⟨y, by simpa using h1, h2⟩
theorem paired_snoc {α β : Type} {F : α → β → Prop} {a : α} {b : β} {xs : List α} {ys : List β} (h : Paired F xs ys) (r : F a b) : Paired F (xs ++ [a]) (ys ++ [b]) := by
  induction h with
  | nil => exact .cons r .nil
  | cons q _ ih => exact .cons q ih
theorem paired_len {α β : Type} {F : α → β → Prop} {xs : List α} {ys : List β} (h : Paired F xs ys) : xs.length = ys.length := by
  induction h with
  | nil => rfl
  | cons _ _ ih => exact congrArg Nat.succ ih
theorem Rows.keep {H H' : Hp} {p : Addr} {rows : List (List V)} (h : Rows H p rows) (k : Keep [] H H') : Rows H' p rows := by
  obtain ⟨ps, e, r⟩ := h
  exact ⟨ps, k _ _ (by simp) e, L2.Paired.mapP r fun q x z => k _ _ (by simp) z⟩

/-- what the list's items answer: read off the address -/
noncomputable def eqRef (H : Hp) (xs : List V) (u : Value) : Bool := match u with
  | .ref q => (match H q with | some (.tup r) => eqT r xs | _ => false)
  | _ => false
noncomputable def rInT (neg : Bool) : R2 := fun x y H Q => ∃ p t xs rows, y = .ref p ∧ x = .ref t ∧ Rows H p rows ∧ H t = some (.tup xs) ∧ xs.all flatV = true ∧ (∀ r ∈ rows, r.all flatV = true) ∧ Q (.bl (if neg then !rows.any (fun r => eqT r xs) else rows.any fun r => eqT r xs)) H
/-! ### xs.remove(y), where == leans on the heap -/
open MeetsSeq in
open AutoSeq1 (wpAny_loadPart') in
open MeetsSeq in
open AutoSeq1 (wpAny_loadPart') in
/-- xs.remove(t), a list of tuples: the j-th is the first one that is like t -/
noncomputable def rRemT : V → List V → Hp → VK → Prop := fun x vs H Q => ∃ l t xs rows j ps, x = .ref l ∧ vs = [.ref t] ∧ H l = some (.lst (ps.map V.ref)) ∧ Paired (fun q r => H q = some (.tup r)) ps rows ∧ H t = some (.tup xs) ∧ xs.all flatV = true ∧ (∀ r ∈ rows, r.all flatV = true) ∧
  (∃ r, rows[j]? = some r ∧ eqT r xs = true) ∧ (∀ m r, m < j → rows[m]? = some r → eqT r xs = false) ∧ Q .non (upd H l (.lst ((ps.eraseIdx j).map V.ref)))
/-- xs.remove(y), flat values -/
noncomputable def rRemF : V → List V → Hp → VK → Prop := fun x vs H Q => ∃ l y xs j, x = .ref l ∧ vs = [y] ∧ H l = some (.lst xs) ∧ flatV y = true ∧ xs.all flatV = true ∧
  (∃ r, xs[j]? = some r ∧ eqV r y = true) ∧ (∀ m r, m < j → xs[m]? = some r → eqV r y = false) ∧ Q .non (upd H l (.lst (xs.eraseIdx j)))
/-! ### a list beside the empty one -/
noncomputable def rNeE (neg : Bool) : R2 := fun x y H Q => ∃ a b xs, x = .ref a ∧ y = .ref b ∧ H a = some (.lst xs) ∧ H b = some (.lst []) ∧ a ≠ b ∧ Q (.bl (if neg then !xs.isEmpty else xs.isEmpty)) H
/-! ### isinstance(x, (C, D)) of built-in classes -/
theorem tys_of : ∀ {Ts : List String} {us : List Value}, Vals (Ts.map V.ty) us → us = Ts.map Value.type
  | [], _, .nil => rfl
  | _ :: Ts, _, .cons r t => by cases r; rw [List.map_cons, tys_of t]
theorem call_isinstT : CallR X (.builtin "isinstance") (fun xs H Q => ∃ (x : V) (T : String) (p : Addr) (Ts : List String) (b : Bool), xs = [x, .ref p] ∧ PlainT X.K H x T ∧ H p = some (.tup (Ts.map V.ty)) ∧ PySem.W.kitAny X.K (.type T) (Ts.map Value.type) = some b ∧ Q (.bl b) H) := by
  intro pins s σ H xs us Q I r h
  obtain ⟨x, T, p, Ts, b, rfl, pt, hp, e, q⟩ := h
  obtain ⟨u, v, rfl, ru, rv⟩ := r.two
  cases rv
  obtain ⟨its, rt, it, _⟩ := I.tuple (.of hp)
  have ei := tys_of rt
  subst ei
  obtain ⟨⟨cls, dd, data, sl⟩, ho, hc, n, hd⟩ := id it
  simp only at hc hd
  subst hc hd
  have fin : ∀ tk, EP X pins σ Q (.bool b) { s with toks := tk } := fun tk => ⟨.bl b, H, I.tok tk, rfl, q⟩
  cases pt with
  | non => cases (show u = Value.none from ru); exact PySem.W.kia_tup PySem.W.kitx_none I.kIn True.intro ho e (fun z => nomatch z) fin
  | bl y => cases (show u = Value.bool y from ru); exact PySem.W.kia_tup PySem.W.kitx_bool I.kIn True.intro ho e (fun z => nomatch z) fin
  | int i => obtain ⟨t, q'⟩ := (show ∃ t, u = Value.int i t from ru); cases q'; exact PySem.W.kia_tup PySem.W.kitx_int I.kIn True.intro ho e (fun z => nomatch z) fin
  | str y => obtain ⟨t, q'⟩ := (show ∃ t, u = Value.str y t from ru); cases q'; exact PySem.W.kia_tup PySem.W.kitx_str I.kIn True.intro ho e (fun z => nomatch z) fin
  | @lst a xs ea =>
    cases (show u = Value.ref a from ru)
    obtain ⟨_, _, n', _, h1⟩ := (show ObjOk X.prog X.w H s.heap a (.lst xs) from I.hok a _ ea)
    exact PySem.W.kia_tup PySem.W.kitx_list I.kIn ⟨_, h1, rfl⟩ ho e (fun z => nomatch z) fin
  | @tup a xs ea =>
    cases (show u = Value.ref a from ru)
    obtain ⟨_, _, _, p'⟩ := (show ObjOk X.prog X.w H s.heap a (.tup xs) from I.hok a _ ea)
    obtain ⟨o, h1, h2, _⟩ := p'
    exact PySem.W.kia_tup PySem.W.kitx_tuple I.kIn ⟨o, h1, h2⟩ ho e (fun z => nomatch z) fin
  | @dK a kvs ea =>
    cases (show u = Value.ref a from ru)
    obtain ⟨_, _, vs, _, p'⟩ := (show ObjOk X.prog X.w H s.heap a (.dK kvs) from I.hok a _ ea)
    obtain ⟨o, es, ep, h1, h2, _⟩ := p'
    exact PySem.W.kia_tup PySem.W.kitx_dict I.kIn ⟨o, h1, h2.1⟩ ho e (fun z => nomatch z) fin

end
/-! ### methods of an own class -/
structure MthG (K : PySem.W.Frag) (C : Addr) (m qual : Str) (st : Stmt) (ps : List Str) : Prop where
  ex : ∃ (f : Addr) (fd : FuncData), Fun K m qual st f fd ∧ Meth K C m f ∧ Binds K fd ps []
structure MCal (P : Program) (w : World) (K : PySem.W.Frag) (mg : Str → Option Value) (base : Heap) (CX : CXT) (k : Nat) (C : Addr) (m : Str) (ps : List Str) (sp : Sp) : Prop where
  ex : ∃ (f : Addr) (fd : FuncData), FnOk P w K mg base CX k f fd ps sp ∧ Meth K C m f ∧ Binds K fd ps []
section
variable {P : Program} {w : World} {K : PySem.W.Frag} {mg : Str → Option Value} {base : Heap}
theorem MthG.ok {C : Addr} {m qual : Str} {st : Stmt} {N ps : List Str} {k : Nat} {sp : Sp} (G : MthG K C m qual st ps) (S : FnScope N ps (defScope st)) (len : ∀ vs H Q E, sp vs H Q E → vs.length = ps.length)
    (hbody : ∀ (f : Addr) (cdv : Value) (A : Around) (outer : List Env) (s : Shared) (H : Hp) (vs : List V) (Q : VK) (E : XK), Room k (A.deeper (envOfC qual (defScope st) s.heap.objs.size f cdv)) → sp vs H Q E →
      ∃ t, PSs (cxOf CX0 P w K mg base N qual (defScope st) f cdv A outer s H E).nox (defBody st) t ∧ t { nx := fun _ H' => Q .non H', rt := Q } (start N vs) H) : MCal P w K mg base CX0 (k + 1) C m ps sp := by
  obtain ⟨f, fd, F, hm, hb⟩ := G.ex
  exact ⟨f, fd, F.ok S len fun cdv A outer s H vs Q E hr h => hbody f cdv A outer s H vs Q E hr h, hm, hb⟩
theorem mthG_mk {C : Addr} {x qual : Str} {st : Stmt} {f : Addr} {oc : Value} {od an : Option Addr} {osl : Array (Option Value)} {kV doc pm cdv ct : Value} {ps : List Str}
    (a : PySem.W.findIn K (.ref C) x = some (some (.ref f))) (i : PySem.W.isFn K (.ref f) = true)
    (l : K.lookup f = some ⟨oc, od, .func (PySem.W.fnOf x qual (defArgs st) (defBody st) (defScope st) .none kV doc pm an cdv ct), osl⟩) (c : PySem.W.codeIn K cdv qual = true) (k : PySem.W.keepIn K (.ref f) = true)
    (hb : ∀ (kV doc pm : Value) (an : Option Addr) (cdv ct : Value) (us : List Value), us.length = ps.length → bindArgs (PySem.W.fnOf x qual (defArgs st) (defBody st) (defScope st) .none kV doc pm an cdv ct) ⟨us, []⟩ = pure (ps.zip us)) : MthG K C x qual st ps :=
  ⟨f, _, fun_mk l c k, ⟨a, i, k⟩, (fun_mk l c k).binds hb⟩
end
section
variable {X : Cx} {k : Nat} {C : Addr} {ps : List Str} {sp : Sp} {m : Str} {apos pos : Pos} {o e : Expr} {es : List Expr} {ta : TE} {t : TA}
theorem pe_mth0 {pl : Sem Bool} (M : MCal X.prog X.w X.K X.mg X.base CX0 k C m ps sp) (c : Cls X.K C) (hr : Room k X.A) (ho : PE X o ta)
    (ht : eval (.Call (.Attribute o m apos) [] [] pos) X.env = (do
      let ov ← eval o X.env
      standAt apos.atName
      let (f, first) ← holding [ov] (getMethod ov m pl)
      callWith pos f first (backTo pos (starEach [] X.env)) (backToKw pos (keywordEach [] X.env))) := by rfl) :
    PE X (.Call (.Attribute o m apos) [] [] pos) (tMeth C m sp [] E0 ta tNil) :=
  let ⟨_, _, F, hm, hb⟩ := M.ex
  pe_meth0 ho c hm F hr hb .nil pass0 ht
end
end L2

set_option Elab.async false
set_option linter.all false
set_option maxRecDepth 100000
set_option maxHeartbeats 4000000
namespace L2
open PySem PySem.Spec PyProof.Rows
section
variable {X : Cx}
/-- in, not in, of a list that the heap knows -/
noncomputable def rInH (neg : Bool) : R2 := fun x y H Q => ∃ p xs, y = .ref p ∧ H p = some (.lst xs) ∧ flatV x = true ∧ xs.all flatV = true ∧ Q (.bl (if neg then !inV x xs else inV x xs)) H
end
/-! ### a class of the file's top, made -/
structure MkCal (P : Program) (w : World) (K : PySem.W.Frag) (mg : Str → Option Value) (base : Heap) (CX : CXT) (k : Nat) (C : Addr) (x : Str) (ps : List Str) (sp : Sp) : Prop where
  ex : ∃ (f : Addr) (fd : FuncData), FnOk P w K mg base CX k f fd ps sp ∧ Mk K C f ∧ mg x = some (.ref C) ∧ Binds K fd ps []
section
variable {X : Cx} {k : Nat} {C : Addr} {ps : List Str} {sp : Sp} {x : Str} {p pos : Pos} {e : Expr} {es : List Expr} {t : TA}
end
/-! ### [(word, x) for x in names if test] -/
end L2

set_option Elab.async false
set_option linter.all false
set_option maxRecDepth 100000
set_option maxHeartbeats 4000000
namespace L2
open PySem PySem.Spec PyProof.Rows
/-! ### a, b = a list -/
section
variable {prog : Program} {w : World} {A : Around} {E : Value → Shared → Prop} {s : Shared}
end
section
variable {X : Cx} {pos : Pos}
noncomputable def gLst (K : PySem.W.Frag) (n : Nat) (t : TGs) : TG := fun v σ H Q => ∃ a xs, v = .ref a ∧ SqL K H a xs ∧ xs.length = n ∧ t xs σ H Q
/-! ### != of tuples of flat values -/
noncomputable def rNeT : R2 := fun x y H Q => ∃ a b xs ys, x = .ref a ∧ y = .ref b ∧ H a = some (.tup xs) ∧ H b = some (.tup ys) ∧ xs.all flatV = true ∧ ys.all flatV = true ∧ Q (.bl (!eqT xs ys)) H
theorem eqAt_items {pins : List (Addr × Obj)} {σ : St} {H : Hp} {s : Shared} {A : Around} {xs ys : List V} {i1 i2 : List Value} (r1 : Vals xs i1) (r2 : Vals ys i2) (f1 : xs.all flatV = true) (f2 : ys.all flatV = true) (j : Nat) (g1 : j < i1.toArray.size) (g2 : j < i2.toArray.size) :
    SeqAt.EqAt A s i1.toArray[j] i2.toArray[j] (eqV (xs.getD j .non) (ys.getD j .non)) := by
  have l1 := r1.length
  have l2 := r2.length
  have g1' : j < i1.length := by simpa using g1
  have g2' : j < i2.length := by simpa using g2
  obtain ⟨u, eu, ru⟩ := r1.get (i := j) (List.getElem?_eq_getElem (by omega : j < xs.length))
  obtain ⟨v, ev, rv⟩ := r2.get (i := j) (List.getElem?_eq_getElem (by omega : j < ys.length))
  have eu' : i1.toArray[j] = u := by
    rw [List.getElem?_eq_getElem g1'] at eu
    simpa using Option.some.inj eu
  have ev' : i2.toArray[j] = v := by
    rw [List.getElem?_eq_getElem g2'] at ev
    simpa using Option.some.inj ev
  rw [eu', ev']
  have q1 : xs.getD j .non = xs[j]'(by omega) := by rw [List.getD_eq_getElem?_getD, List.getElem?_eq_getElem (by omega)]; rfl
  have q2 : ys.getD j .non = ys[j]'(by omega) := by rw [List.getD_eq_getElem?_getD, List.getElem?_eq_getElem (by omega)]; rfl
  show SeqAt.EqAt _ _ _ _ (eqV (xs.getD j .non) (ys.getD j .non))
  rw [q1, q2]
  exact eqAt_V ru rv (List.all_eq_true.mp f1 _ (List.getElem_mem _)) (List.all_eq_true.mp f2 _ (List.getElem_mem _))
end
/-! ### [(word, x) for x in names if test], the test may lay new things -/
/-! ### over a list of tuples: what is kept, or pairs made of it -/
theorem cut_ints (ns : List Int) (lo hi : Option Int) : ∃ ms : List Int, cutV (ns.map V.int) lo hi = ms.map V.int ∧ ms.length ≤ ns.length := by
  unfold cutV
  refine ⟨(ns.drop (HT.sIx (ns.map V.int).length 0 lo)).take (HT.sIx (ns.map V.int).length (ns.map V.int).length hi - HT.sIx (ns.map V.int).length 0 lo), by rw [List.map_take, List.map_drop], ?_⟩
  rw [List.length_take, List.length_drop]
  omega
end L2

set_option Elab.async false
set_option linter.all false
set_option maxRecDepth 100000
set_option maxHeartbeats 4000000
namespace L2
open PySem PySem.Spec PyProof.Rows
/-! ### an exception in the air: its record, and what stays beneath it -/
noncomputable def ClsIs (ob : Obj) (C : Addr) : Prop := ob.cls = .ref C ∧ ob.dict = none
theorem dict_mapF (f : Array Value → Array Value) (o : Obj) : (Obj.mapFields f o).dict = o.dict := by
  unfold Obj.mapFields
  split <;> rfl
/-- the record of the exception at e, of the class at C; fl: the frame at which it is being looked at -/
noncomputable def Rec (h B : Heap) (e C : Addr) (fl : Value) : Prop :=
  ∃ (ob : Obj) (cells : Array Value) (tb : Addr) (ot : Obj) (tcs : Array Value), h.get? e = some ob ∧ ClsIs ob C ∧ ob.data = .fields cells ∧ cells[2]? = some .none ∧ cells[1]? = some (.ref tb) ∧
    B.get? tb = none ∧ tb ≠ e ∧ h.get? tb = some ot ∧ ot.data = .fields tcs ∧ tcs[3]? = some fl
noncomputable def Fly (B : Heap) (l : List Env) (e C : Addr) (fl : Value) (h : Heap) : Prop := B.StaysIn h ∧ B.get? e = none ∧ h.FunFrames B l ∧ Rec h B e C fl
section
variable {M : Model} {A : Around} {E : Value → Shared → Prop} {s : Shared} {B : Heap} {env : Env} {outer : List Env} {L e C : Addr} {Q : Unit → Shared → Prop}
theorem noteTail {head : Value} {hadNext : Bool} {ob : Obj} {cells : Array Value} (fr : A.frames = some (env :: outer)) (ff : s.heap.FunFrames B (env :: outer)) (ef : env.frame = some L)
    (ge : s.heap.get? e = some ob) (gc : ClsIs ob C) (st : B.StaysIn s.heap) (ne : B.get? e = none) (gd : ob.data = .fields cells) (g2 : cells[2]? = some .none)
    (k : ∀ h', Fly B (env :: outer) e C (rawInt L) h' → s.heap.UpToSlots h' → Q () { s with heap := h' }) :
    wpAny M A (do let a ← frameOf env; let pl ← entryPlaceOf L hadNext; let b ← EntryCells.newEntry head a .none (rawInt L) .none pl; setField (.ref e) 1 b) Q E s := by
  have z2 : 2 < cells.size := (Array.getElem?_eq_some_iff.mp g2).1
  have z1 : 1 < cells.size := by omega
  have nfe : e ∉ (env :: outer).filterMap (·.frame) := fun hm => by
    obtain ⟨_, o, ho, hnf⟩ := ff.mem hm
    rw [ge] at ho; cases ho; exact hnf cells gd
  refine wpAny_bind (wpAny_frameOf_fun fr ff ef fun g hg => ?_)
  refine wpAny_bind (wpAny_entryPlaceOf fun pl hpl => ?_)
  unfold EntryCells.newEntry newFields
  refine wpAny_bind (wpAny_newObj_type ?_ (hpl.sizeOk5 _ _ _ _ _))
  have e1 : g.get? e = some ob := (hg.2.1 e nfe).trans ge
  have st1 : B.StaysIn g := fun b o hb => (hg.2.1 b fun hm => by rw [(ff.mem hm).1] at hb; cases hb).trans (st b o hb)
  generalize htb : ({ cls := .type "traceback", dict := none, data := .fields ([head, .ref L, .none, rawInt L, .none] ++ (if pl.isEmpty then List.replicate 6 Value.none else pl)).toArray } : Obj) = tbo
  have tbd : ∃ tcs : Array Value, tbo.data = .fields tcs ∧ tcs[3]? = some (rawInt L) := ⟨_, by rw [← htb], by first | (simp; done) | (rcases hpl with rfl | ⟨_, _, _, _, _, _, _, rfl⟩ <;> simp)⟩
  obtain ⟨tcs, td, t3⟩ := tbd
  have e2 := Heap.get?_push_of_some (h := g) tbo e1
  have nte : g.objs.size ≠ e := Nat.ne_of_gt (Heap.lt_size e1)
  have d3 := Obj.data_mapFields gd (·.setIfInBounds 1 (Value.ref g.objs.size))
  have e3 := Heap.get?_update_self (Obj.mapFields (·.setIfInBounds 1 (Value.ref g.objs.size))) e2 (Obj.isFreed_of_fields d3)
  have oth : ∀ b o, b ≠ e → g.get? b = some o → ((g.push tbo).update e (Obj.mapFields (·.setIfInBounds 1 (Value.ref g.objs.size)))).get? b = some o := fun b o nb hb => by
    rw [Heap.get?_update_other _ _ (Ne.symm nb)]; exact Heap.get?_push_of_some _ hb
  have nrec : ∀ b o, s.heap.get? b = some o → (∀ vs, o.data ≠ .fields vs) → b ≠ e := fun b o hb hnf z => by
    rw [z, ge] at hb; cases hb; exact hnf cells gd
  have up : s.heap.UpToSlots ((g.push tbo).update e (Obj.mapFields (·.setIfInBounds 1 (Value.ref g.objs.size)))) := fun b o hb hnf => by
    obtain ⟨sl, q⟩ := hg.2.2 b o hb
    exact ⟨sl, oth b _ (nrec b o hb hnf) q⟩
  have tbg : ((g.push tbo).update e (Obj.mapFields (·.setIfInBounds 1 (Value.ref g.objs.size)))).get? g.objs.size = some tbo := by
    rw [Heap.get?_update_other _ _ (Ne.symm nte)]
    exact Heap.get?_push_size g (Obj.isFreed_of_fields td)
  refine wpAny_setField e2 gd z1 (k _ ⟨fun b o hb => oth b o (fun z => by rw [z, ne] at hb; cases hb) (st1 b o hb), ne, ff.of_keeps fun b o hb hnf => ?_, ?_⟩ up)
  · obtain ⟨sl, q⟩ := up b o hb hnf
    exact ⟨_, q, rfl⟩
  · exact ⟨_, _, g.objs.size, tbo, tcs, e3, ⟨(Obj.cls_mapFields _ _).trans gc.1, (dict_mapF _ _).trans gc.2⟩, d3, by rw [Array.getElem?_setIfInBounds_ne (by decide)]; exact g2, by simp [z1], st1.fresh, nte, tbg, td, t3⟩
/-- a new exception is noted at its first frame -/
theorem note_new {ob : Obj} {cells : Array Value} (fr : A.frames = some (env :: outer)) (ff : s.heap.FunFrames B (env :: outer)) (ef : env.frame = some L)
    (ge : s.heap.get? e = some ob) (gc : ClsIs ob C) (st : B.StaysIn s.heap) (ne : B.get? e = none) (gd : ob.data = .fields cells) (g1 : cells[1]? = some .none) (g2 : cells[2]? = some .none)
    (k : ∀ h', Fly B (env :: outer) e C (rawInt L) h' → s.heap.UpToSlots h' → Q () { s with heap := h' }) : wpAny M A (noteFrame (.ref e) env) Q E s := by
  unfold noteFrame
  simp only [ef]
  refine wpAny_bind (wpAny_field ge gd g1 ?_)
  rw [if_neg (by decide)]
  exact noteTail fr ff ef ge gc st ne gd g2 k
/-- an exception that comes to the next frame is noted there -/
theorem note_on (fr : A.frames = some (env :: outer)) (ef : env.frame = some L) (F : Fly B (env :: outer) e C .none s.heap)
    (k : ∀ h', Fly B (env :: outer) e C (rawInt L) h' → s.heap.UpToSlots h' → Q () { s with heap := h' }) : wpAny M A (noteFrame (.ref e) env) Q E s := by
  obtain ⟨st, ne, ff, ob, cells, tb, ot, tcs, ge, gc, gd, g2, g1, nb, nte, gt, td, t3⟩ := F
  unfold noteFrame
  simp only [ef]
  refine wpAny_bind (wpAny_field ge gd g1 ?_)
  rw [if_pos (by simp : (Value.ref tb != Value.none) = true)]
  refine wpAny_bind (wpAny_field gt td t3 ?_)
  rw [if_neg (by simp [rawInt] : ¬ ((Value.none == rawInt L) = true))]
  refine wpAny_bind (wpAny_setField gt td (Array.getElem?_eq_some_iff.mp t3).1 ?_)
  have oth : ∀ b, b ≠ tb → (s.heap.update tb (Obj.mapFields (·.setIfInBounds 3 Value.none))).get? b = s.heap.get? b := fun b hb => Heap.get?_update_other _ _ (Ne.symm hb)
  have nrec : ∀ b o, s.heap.get? b = some o → (∀ vs, o.data ≠ .fields vs) → b ≠ tb := fun b o hb hnf z => by
    rw [z, gt] at hb; cases hb; exact hnf tcs td
  exact noteTail fr (ff.of_keeps fun b o hb hnf => ⟨o, (oth b (nrec b o hb hnf)).trans hb, rfl⟩) ef ((oth e (Ne.symm nte)).trans ge) gc (fun b o hb => (oth b fun z => by rw [z, nb] at hb; cases hb).trans (st b o hb)) ne gd g2
    fun h' F' up => k h' F' fun b o hb hnf => up b o ((oth b (nrec b o hb hnf)).trans hb) hnf
/-- it is set free again -/
theorem land_on {l : List Env} {fl : Value} (F : Fly B l e C fl s.heap) (k : ∀ h', Fly B l e C .none h' → s.heap.UpToSlots h' → Q () { s with heap := h' }) : wpAny M A (setFlight (.ref e) none) Q E s := by
  obtain ⟨st, ne, ff, ob, cells, tb, ot, tcs, ge, gc, gd, g2, g1, nb, nte, gt, td, t3⟩ := F
  have z3 : 3 < tcs.size := (Array.getElem?_eq_some_iff.mp t3).1
  have oth : ∀ b, b ≠ tb → (s.heap.update tb (Obj.mapFields (·.setIfInBounds 3 ((none : Option Addr).elim Value.none fun f => rawInt f)))).get? b = s.heap.get? b := fun b hb => Heap.get?_update_other _ _ (Ne.symm hb)
  have nrec : ∀ b o, s.heap.get? b = some o → (∀ vs, o.data ≠ .fields vs) → b ≠ tb := fun b o hb hnf z => by
    rw [z, gt] at hb; cases hb; exact hnf tcs td
  unfold setFlight
  refine wpAny_bind (wpAny_field ge gd g1 ?_)
  rw [if_pos (by simp : (Value.ref tb != Value.none) = true)]
  refine wpAny_setField gt td z3 (k _ ⟨fun b o hb => (oth b fun z => by rw [z, nb] at hb; cases hb).trans (st b o hb), ne, ff.of_keeps fun b o hb hnf => ⟨o, (oth b (nrec b o hb hnf)).trans hb, rfl⟩, ?_⟩ fun b o hb hnf => ⟨o.slots, (oth b (nrec b o hb hnf)).trans hb⟩)
  exact ⟨ob, cells, tb, _, _, (oth e (Ne.symm nte)).trans ge, gc, gd, g2, g1, nb, nte, Heap.get?_update_self _ gt (Obj.isFreed_of_fields (Obj.data_mapFields td _)), Obj.data_mapFields td _, by simp [z3]⟩
theorem Fly.down {l : List Env} {fl : Value} {h : Heap} (F : Fly B (env :: l) e C fl h) : Fly B l e C fl h := ⟨F.1, F.2.1, F.2.2.1.2.2, F.2.2.2⟩
theorem leave_new {h : Heap} {args : List Value} (fr : A.frames = some (env :: outer)) (ff : h.FunFrames B (env :: outer)) (ef : env.frame = some L) (st : B.StaysIn h) (mk : Heap.MadeExcOf h s.heap e (.ref C) args)
    (k : ∀ h', Fly B outer e C .none h' → s.heap.UpToSlots h' → Q () { s with heap := h' }) : wpAny M A (leaving env (.ref e)) Q E s := by
  obtain ⟨t, ge, _, _⟩ := mk.there
  have ne : B.get? e = none := by
    cases q : B.get? e with
    | none => rfl
    | some o => have := st e o q; rw [mk.new] at this; cases this
  unfold leaving
  exact wpAny_bind (note_new fr (ff.of_keeps fun b o hb _ => ⟨o, mk.keeps b o hb, rfl⟩) ef ge ⟨rfl, rfl⟩ (fun b o hb => mk.keeps b o (st b o hb)) ne rfl rfl rfl fun g F1 u1 => land_on F1 fun h' F2 u2 => k h' F2.down (u1.trans u2))
end
end L2

set_option Elab.async false
set_option linter.all false
set_option maxRecDepth 100000
set_option maxHeartbeats 4000000
namespace L2
open PySem PySem.Spec PyProof.Rows
section
variable {P : Program} {w : World} {H H' : Hp} {h h' B : Heap} {a : Addr} {o : HO}
theorem ObjOk.there (x : ObjOk P w H h a o) : ∃ u, h.get? a = some u := by
  cases o with
  | lst xs => obtain ⟨_, _, _, _, q⟩ := x; exact ⟨_, q⟩
  | tup xs => obtain ⟨_, _, _, ⟨u, q, _⟩⟩ := x; exact ⟨u, q⟩
  | dK kvs => obtain ⟨_, _, _, _, u, _, _, q, _⟩ := x; exact ⟨u, q⟩
  | dT kvs => obtain ⟨_, _, _, _, u, _, _, q, _⟩ := x; exact ⟨u, q⟩
  | set S n => obtain ⟨u, _, _, _, q, _⟩ := x; exact ⟨u, q⟩
  | ins C dx fs => obtain ⟨_, _, _, q, _⟩ := x; exact ⟨_, q⟩
  | own y => exact x
  | xd fs => obtain ⟨_, ⟨u, _, _, q, _⟩, _⟩ := x; exact ⟨u, q⟩
  | rng lo hi => obtain ⟨_, _, _, q⟩ := x; exact ⟨_, q⟩
  | frz ob u => obtain ⟨q, _⟩ := x; exact ⟨_, q⟩
  | tbl ps => exact ⟨_, (show h.get? a = some _ from x)⟩
  | met f y => exact ⟨_, (show h.get? a = some _ from x)⟩
  | ext φ => obtain ⟨_, q, _⟩ := x; exact q
/-- what is tracked stays, where it lies in what stays -/
theorem HOk.air (ok : HOk P w H h) (st : B.StaysIn h) (st' : B.StaysIn h') (cov : ∀ c, H c ≠ none → ∃ u, B.get? c = some u) : HOk P w H h' := fun b o e =>
  (ok b o e).stay (fun c u hc q => by
    have hn : H c ≠ none := by
      rcases hc with z | z
      · rw [z, e]; intro y; cases y
      · rw [z]; intro y; cases y
    obtain ⟨u', qB⟩ := cov c hn
    have := st c u' qB
    rw [q] at this; cases this
    exact st' c u qB) (fun _ z => z) fun _ _ z => z
end
/-- behind a call that an exception of an own class has left: E is told its class -/
noncomputable def CXE (P : Program) (w : World) : CXT := fun outer H s E e s' => ∃ (a C : Addr) (B : Heap) (H' : Hp), e = .ref a ∧ s'.os = s.os ∧ AllBare s'.gens ∧ Un (frs outer) [] H H' s.heap s'.heap ∧ HOk P w H' s'.heap ∧ Fly B outer a C .none s'.heap ∧
  (∀ c, H' c ≠ none → ∃ u, B.get? c = some u) ∧ (∀ b o, s.heap.get? b = some o → H b = none → b ∉ frs outer → B.get? b = some o) ∧ (∀ b o, s.heap.get? b = some o → b ∉ frs outer → ∃ o', B.get? b = some o') ∧ E (.ref C) none H'
section
variable {P : Program} {w : World} {K : PySem.W.Frag} {mg : Str → Option Value} {base : Heap} {N : List Str} {qual : Str} {scope : Scope} {f : Addr} {cd : Value} {A : Around} {outer : List Env} {s0 : Shared} {H0 : Hp} {E : XK}
theorem nonf {h : Heap} {bb : Heap} {l : List Env} {b : Addr} {o : Obj} (ff : h.FunFrames bb l) (hb : b ∈ frs l) (q : h.get? b = some o) : ∀ vs, o.data ≠ .fields vs := by
  obtain ⟨_, o', q', n⟩ := ff.mem hb
  rw [q] at q'; cases q'
  exact n
/-- a new exception leaves the def in which it is raised -/
theorem raise_cx {pins : List (Addr × Obj)} {σ : St} {H : Hp} {s : Shared} {h' : Heap} {e C : Addr} {args : List Value} (I : Inv (cxOf (CXE P w) P w K mg base N qual scope f cd A outer s0 H0 E) pins σ H s)
    (mk : Heap.MadeExcOf s.heap h' e (.ref C) args) (hE : E (.ref C) none H) : (cxOf (CXE P w) P w K mg base N qual scope f cd A outer s0 H0 E).xe (.ref e) { s with heap := h' } := by
  have nfree : ∀ b ∈ frs (envOfC qual scope s0.heap.objs.size f cd :: outer), H b = none := I.stkFree
  have ff : s.heap.FunFrames base (envOfC qual scope s0.heap.objs.size f cd :: outer) := I.stack
  have inB : ∀ b o, s.heap.get? b = some o → b ∉ frs (envOfC qual scope s0.heap.objs.size f cd :: outer) → (PySem.W.hideAll s.heap (frs (envOfC qual scope s0.heap.objs.size f cd :: outer))).get? b = some o := fun b o q n => PySem.W.hideAll_get _ q n
  have st : (PySem.W.hideAll s.heap (frs (envOfC qual scope s0.heap.objs.size f cd :: outer))).StaysIn s.heap := fun b o q => PySem.W.of_hideAll _ q
  have cov : ∀ c, H c ≠ none → ∃ u, (PySem.W.hideAll s.heap (frs (envOfC qual scope s0.heap.objs.size f cd :: outer))).get? c = some u := fun c hc => by
    cases q : H c with
    | none => exact absurd q hc
    | some o =>
      obtain ⟨u, hu⟩ := (I.hok c o q).there
      exact ⟨u, inB c u hu fun z => hc (nfree c z)⟩
  have old : ∀ b o, s0.heap.get? b = some o → b ∉ frs outer → b ∉ frs (envOfC qual scope s0.heap.objs.size f cd :: outer) := fun b o q n z => by
    rcases List.mem_cons.mp (show b ∈ s0.heap.objs.size :: frs outer from z) with y | y
    · exact Nat.lt_irrefl _ (Nat.lt_of_lt_of_eq (Heap.lt_size q) y.symm)
    · exact n y
  refine leave_new (B := PySem.W.hideAll s.heap (frs (envOfC qual scope s0.heap.objs.size f cd :: outer))) (h := s.heap) I.ok.frames (PySem.W.funFrames_hide ff fun env he a ha => List.mem_filterMap.mpr ⟨env, he, ha⟩) rfl st mk fun h2 F up => ?_
  have cov2 : ∀ b o, s0.heap.get? b = some o → H0 b = none → b ∉ frs outer → (PySem.W.hideAll s.heap (frs (envOfC qual scope s0.heap.objs.size f cd :: outer))).get? b = some o := fun b o q n nb =>
    inB b o (I.base.keep b o q n nb (show b ∉ ([] : List Addr) by simp)) (old b o q nb)
  have cov3 : ∀ b o, s0.heap.get? b = some o → b ∉ frs outer → ∃ o', (PySem.W.hideAll s.heap (frs (envOfC qual scope s0.heap.objs.size f cd :: outer))).get? b = some o' := fun b o q nb => by
    obtain ⟨o', q'⟩ := I.base.there b o q (show b ∉ ([] : List Addr) by simp)
    exact ⟨o', inB b o' q' (old b o q nb)⟩
  have upf : ∀ b o, b ∈ frs outer → s.heap.get? b = some o → ∃ sl, h2.get? b = some { o with slots := sl } := fun b o hb q => up b o (mk.keeps b o q) (nonf ff (List.mem_cons_of_mem _ hb) q)
  refine ⟨e, C, _, H, rfl, I.os, I.bare, ⟨fun b o q n nb _ => F.1 b o (cov2 b o q n nb), fun b o q n hb nx => ?_, fun b o q n nx => I.base.free b o q n nx, fun b o q nx => ?_, I.base.tups, I.base.frzs, I.base.tbls⟩, I.hok.air st F.1 cov, F, cov, cov2, cov3, hE⟩
  · obtain ⟨sl, q1⟩ := I.base.slot b o q n hb nx
    obtain ⟨sl2, q2⟩ := upf b _ hb q1
    exact ⟨sl2, q2⟩
  · by_cases hb : b ∈ frs outer
    · obtain ⟨o', q1⟩ := I.base.there b o q nx
      obtain ⟨sl2, q2⟩ := upf b _ hb q1
      exact ⟨_, q2⟩
    · obtain ⟨o', q1⟩ := cov3 b o q hb
      exact ⟨o', F.1 b o' q1⟩
end
end L2

set_option Elab.async false
set_option linter.all false
set_option maxRecDepth 100000
set_option maxHeartbeats 4000000
namespace L2
open PySem PySem.Spec PyProof.Rows
/-! ### raise C('text'), C an own class under ValueError without an __init__ of its own -/
noncomputable abbrev bmVE : List Value := [.type "ValueError", .type "Exception", .type "BaseException", .type "object"]
structure ExcC (K : PySem.W.Frag) (mg : Str → Option Value) (x : Str) (C : Addr) : Prop where
  at_ : mg x = some (.ref C)
  ok : PySem.W.excIn K C bmVE "ValueError.__new__" = true
theorem exc_obj {K : PySem.W.Frag} {h : Heap} {C : Addr} {bmB : List Value} {newId : String} (X : K.In h) (q : PySem.W.excIn K C bmB newId = true) :
    ∃ bm N nm qn bs hdct sn sub ab col dd k0 k1 k2 k3 k5, ∃ mN : Str → Option Value, h.get? C = some (excClassObj nm qn C N bs bm hdct sn sub ab col dd k0 k1 k2 k3 k5 newId) ∧ h.Ns N mN ∧ mN "__init__" = none ∧ OwnTail h bmB bm := by
  unfold PySem.W.excIn at q
  split at q
  · rename_i dd cd sl hk
    split at q
    · rename_i C' bm k0 k1 k2 k3 n k5 e1 e2
      simp only [Bool.and_eq_true, beq_iff_eq, Bool.not_eq_true'] at q
      obtain ⟨⟨⟨⟨⟨r1, r2⟩, r3⟩, r4⟩, r5⟩, r6⟩ := q
      subst r1 r2
      cases cd with
      | mk nm bs mro ns qn hdc sn sub ab col del =>
        dsimp only at e1 r3 r5 r6
        subst e1 r3
        have esl : sl = #[k0, k1, k2, k3, some (.builtin n), k5] := by
          cases sl with
          | mk l =>
            dsimp only at e2
            rw [e2]
        subst esl
        exact ⟨bm, ns, nm, qn, bs, hdc, sn, sub, ab, col, dd, k0, k1, k2, k3, k5, _, X _ _ hk, .of_isNs (PySem.W.isNs_of_in X r5), PySem.W.nsMap_none_of_in X r5 r6, PySem.W.tail_of_in X r4⟩
    · cases q
  · cases q
/-- an exception may leave here, and E is what is wanted of it -/
structure RaiseOk (X : Cx) (E : XK) : Prop where
  hd : X.A.handled = none
  out : ∀ (pins : List (Addr × Obj)) (σ : St) (H : Hp) (s : Shared) (h' : Heap) (e C : Addr) (args : List Value), Inv X pins σ H s → Heap.MadeExcOf s.heap h' e (.ref C) args → E (.ref C) none H → X.xe (.ref e) { s with heap := h' }
noncomputable def tRaise (E : XK) (C : Addr) : TS := fun _ _ H => E (.ref C) none H
section
variable {X : Cx} {E : XK} {x : Str} {C : Addr}
theorem ps_raise {z : Str} {j np cp cpos pos} (R : RaiseOk X E) (c : ExcC X.K X.mg x C) (hg : Gl X x := by rfl) (hd : (x == ("__debug__" : Str)) = false := by decide) :
    PS X (.Raise (some (.Call (.Name x np) [.Constant (.str z) j cp] [] cpos)) none pos) (tRaise E C) := by
  intro pins s σ H D I h
  obtain ⟨bm, N, nm, qn, bs, hdct, sn, sub, ab, col, dd, k0, k1, k2, k3, k5, mN, hC, hN, hni, T⟩ := exc_obj I.ok.mod.kin c.ok
  refine wpAny_Raise_call_subT (C := C) (nm := nm) (q := qn) (N := N) (bs := bs) (bm := bm) (hdct := hdct) (sn := sn) (sub := sub) (ab := ab) (col := col) (dd := dd) (k0 := k0) (k1 := k1) (k2 := k2) (k3 := k3) (k5 := k5)
    PySem.F.excBase_ValueError (mN := mN) (T.hasType PySem.F.excBase_ValueError.hasBase) R.hd rfl hni (ld_glob I hg c.at_ ⟨rfl, ?_⟩ hd)
  refine Calls.evalArgs_plain (thn ((pa_cons pe_str pa_nil) cpos pins s σ H (fun vs H1 => vs = [.str z] ∧ H1 = H) I ⟨rfl, rfl⟩) fun us s1 hz40 => ?_)
  obtain ⟨vs, H1, I1, r, e1, e2⟩ := hz40
  subst e1 e2
  obtain ⟨u, rfl, _⟩ := r.one
  exact ⟨rfl, by show 1 ≤ sizeLine; decide, I1.bk _ _ hC, hN.keeps I1.bk, T.keeps I1.bk, fun h' e mk => R.out pins σ _ s1 h' e C _ I1 mk h⟩
end
section
variable {P : Program} {w : World} {K : PySem.W.Frag} {mg : Str → Option Value} {base : Heap}
theorem raiseOk_cx {N : List Str} {qual : Str} {scope : Scope} {f : Addr} {cd : Value} {A : Around} {outer : List Env} {s0 : Shared} {H0 : Hp} {E : XK} {k : Nat} (hr : Room k (A.deeper (envOfC qual scope s0.heap.objs.size f cd))) :
    RaiseOk (cxOf (CXE P w) P w K mg base N qual scope f cd A outer s0 H0 E) E := ⟨hr.hd, fun _ _ _ _ _ _ _ _ I mk hE => raise_cx I mk hE⟩
/-! ### defs and methods that an exception may leave -/
theorem Fun.okX {x qual : Str} {st : Stmt} {f : Addr} {fd : FuncData} {N ps : List Str} {k : Nat} {sp : Sp} (F : Fun K x qual st f fd) (S : FnScope N ps (defScope st)) (len : ∀ vs H Q E, sp vs H Q E → vs.length = ps.length)
    (hbody : ∀ (cdv : Value) (A : Around) (outer : List Env) (s : Shared) (H : Hp) (vs : List V) (Q : VK) (E : XK), Room k (A.deeper (envOfC qual (defScope st) s.heap.objs.size f cdv)) → sp vs H Q E →
      ∃ t, PSs (cxOf (CXE P w) P w K mg base N qual (defScope st) f cdv A outer s H E) (defBody st) t ∧ t { nx := fun _ H' => Q .non H', rt := Q } (start N vs) H) : FnOk P w K mg base (CXE P w) (k + 1) f fd ps sp := by
  obtain ⟨oc, od, kV, doc, pm, an, cdv, ct, osl, rfl, lk, hcd⟩ := F.ex
  exact fn_of lk hcd S len fun A outer s H vs Q E hr hsp => hbody cdv A outer s H vs Q E hr hsp
end
section
variable {X : Cx} {k : Nat} {C : Addr} {ps : List Str} {sp : Sp} {E : XK} {x m : Str} {p pos apos : Pos} {o e : Expr} {es : List Expr} {ta : TE} {t : TA}
theorem pe_mkX (D : MkCal X.prog X.w X.K X.mg X.base (CXE X.prog X.w) k C x ps sp) (hx : Passes (CXE X.prog X.w) X E) (hr : Room (k + 1) X.A) (ha : PA X (e :: es) t) (hg : Gl X x := by rfl)
    (hdb : (x == ("__debug__" : Str)) = false := by decide) (he : starEach (e :: es) X.env = (false, eval e X.env) :: starEach es X.env := by rfl) (hpl : (backTo pos (starEach es X.env)).any (·.1) = false := by rfl) :
    PE X (.Call (.Name x p) (e :: es) [] pos) (tMake C sp [] E t) :=
  let ⟨_, _, F, M', hm, hb⟩ := D.ex
  pe_make M' F hr hg hm hb .nil hx ha hdb he hpl
end
end L2

set_option Elab.async false
set_option linter.all false
set_option maxRecDepth 100000
set_option maxHeartbeats 4000000
namespace L2
open PySem PySem.Spec PyProof.Rows
/-- the exception at a, of the class at C, as a tracked thing -/
noncomputable def excP (C a : Addr) : Heap → Prop := fun h => ∃ (ob : Obj) (cells : Array Value), h.get? a = some ob ∧ ClsIs ob C ∧ ob.data = .fields cells ∧ cells[2]? = some .none
noncomputable abbrev excO (C a : Addr) : HO := .ext (excP C a)
/-- the body of a try; its suite, e being handled -/
noncomputable abbrev XB (X : Cx) (pn' : List (Addr × Obj)) (xe' : Value → Shared → Prop) : Cx := { X with pn := pn', xe := xe' }
noncomputable abbrev XH (X : Cx) (pn' : List (Addr × Obj)) (a : Addr) : Cx := { X with pn := pn', A := X.A.mark (some (.ref a)), calm := false, xe := fun _ _ => False }
section
variable {X : Cx} {pins : List (Addr × Obj)} {σ : St} {H : Hp} {s : Shared}
theorem Inv.toB (I : Inv X pins σ H s) (xe' : Value → Shared → Prop) : Inv (XB X (X.pn ++ pins) xe') [] σ H s :=
  ⟨⟨I.ok.mod, I.ok.kind, I.ok.glob, I.ok.blt, I.ok.above, I.ok.inj, I.ok.has, I.ok.cab, I.ok.hd, I.ok.frames, I.ok.stk, I.ok.exf, I.ok.bs, I.ok.bsz, I.ok.noex, I.ok.exfs, I.ok.funs, I.ok.frf⟩,
    I.os, I.bare, I.base, I.loc, I.cell, I.free, I.freeC, fun p hp => I.pin p (by simpa using hp), I.hok, I.len⟩
theorem Inv.ofB {pins' : List (Addr × Obj)} {xe' : Value → Shared → Prop} (I : Inv (XB X (X.pn ++ pins) xe') pins' σ H s) : Inv X pins σ H s :=
  ⟨⟨I.ok.mod, I.ok.kind, I.ok.glob, I.ok.blt, I.ok.above, I.ok.inj, I.ok.has, I.ok.cab, I.ok.hd, I.ok.frames, I.ok.stk, I.ok.exf, I.ok.bs, I.ok.bsz, I.ok.noex, I.ok.exfs, I.ok.funs, I.ok.frf⟩,
    I.os, I.bare, I.base, I.loc, I.cell, I.free, I.freeC, fun p hp => I.pin p (List.mem_append_left _ hp), I.hok, I.len⟩
theorem Inv.toH (I : Inv X pins σ H s) (a : Addr) : Inv (XH X (X.pn ++ pins) a) [] σ H s :=
  ⟨⟨I.ok.mod, I.ok.kind, I.ok.glob, I.ok.blt, I.ok.above, I.ok.inj, I.ok.has, I.ok.cab, (fun z => by cases z), I.ok.frames, I.ok.stk, I.ok.exf, I.ok.bs, I.ok.bsz, I.ok.noex, I.ok.exfs, I.ok.funs, I.ok.frf⟩,
    I.os, I.bare, I.base, I.loc, I.cell, I.free, I.freeC, fun p hp => I.pin p (by simpa using hp), I.hok, I.len⟩
theorem Inv.ofH {a : Addr} {pins' : List (Addr × Obj)} {σ0 : St} {H0 : Hp} {s0 : Shared} (I0 : Inv X pins σ0 H0 s0) (I : Inv (XH X (X.pn ++ pins) a) pins' σ H s) : Inv X pins σ H s :=
  ⟨I0.ok, I.os, I.bare, I.base, I.loc, I.cell, I.free, I.freeC, fun p hp => I.pin p (List.mem_append_left _ hp), I.hok, I.len⟩
/-- the frame's names are forgotten -/
theorem Inv.lose {h' : Heap} {m' : Str → Option Value} (I : Inv X pins σ H s) (sb : Heap.SameBut X.env.locals s.heap h') (hn : h'.Ns X.env.locals m') : Inv X pins (List.replicate X.N.length none) H { s with heap := h' } := by
  have same : ∀ b, b ≠ X.env.locals → h'.get? b = s.heap.get? b := fun b hb => sb.2 b hb
  have neL : ∀ b o, X.s₀.heap.get? b = some o → b ≠ X.env.locals := fun b o q => Nat.ne_of_lt (Nat.lt_of_lt_of_le (Heap.lt_size q) I.ok.above)
  refine ⟨I.ok, I.os, I.bare, ⟨fun b o q n nb nx => (same b (neL b o q)).trans (I.base.keep b o q n nb nx), fun b o q n hb nx => ?_, I.base.free, fun b o q nx => ?_, I.base.tups, I.base.frzs, I.base.tbls⟩, ⟨m', hn, fun i x v e1 e2 _ => ?_⟩, fun x c e => ?_, I.free, I.freeC, fun p hp => ?_, fun b o q => ?_, by simp⟩
  · obtain ⟨sl, z⟩ := I.base.slot b o q n hb nx
    exact ⟨sl, (same b (neL b o q)).trans z⟩
  · obtain ⟨o', z⟩ := I.base.there b o q nx
    exact ⟨o', (same b (neL b o q)).trans z⟩
  · rw [List.getElem?_replicate] at e2
    split at e2 <;> cases e2
  · obtain ⟨v, o, q, d⟩ := I.cell x c e
    exact ⟨v, o, (same c (I.cne x c e)).trans q, d⟩
  · obtain ⟨e, n, ne, nf, d⟩ := I.pin p hp
    exact ⟨(same _ ne).trans e, n, ne, nf, d⟩
  · refine (I.hok b o q).stay (fun c u hc z => (same c fun y => ?_).trans z) (fun _ z => z) fun _ _ z => z
    have f0 := I.free
    rcases hc with r | r
    · rw [← r, y, f0] at q; cases q
    · rw [y, f0] at r; cases r
end
/-- an exception that was thrown by a call is held: behind it all stands as ahead, and the exception is one thing more -/
theorem Inv.caught {X : Cx} {pins : List (Addr × Obj)} {σ : St} {H H' : Hp} {s s1 : Shared} {a C : Addr} {B h4 : Heap} (I : Inv X pins σ H s) (os : s1.os = s.os) (bare : AllBare s1.gens) (u : Un (frs X.stack) [] H H' s.heap s1.heap)
    (hok : HOk X.prog X.w H' s1.heap) (F : Fly B X.stack a C .none s1.heap) (cov : ∀ c, H' c ≠ none → ∃ v, B.get? c = some v) (cov2 : ∀ b o, s.heap.get? b = some o → H b = none → b ∉ frs X.stack → B.get? b = some o)
    (cov3 : ∀ b o, s.heap.get? b = some o → b ∉ frs X.stack → ∃ o', B.get? b = some o') (F4 : Fly B X.stack a C .none h4) (up : s1.heap.UpToSlots h4) :
    H' a = none ∧ Inv X pins σ (upd H' a (excO C a)) { s1 with heap := h4 } := by
  have ha : H' a = none := by
    cases q : H' a with
    | none => rfl
    | some o =>
      obtain ⟨v, hv⟩ := cov a (by rw [q]; intro z; cases z)
      rw [F.2.1] at hv; cases hv
  have nfr : a ∉ frs X.stack := fun z => by
    obtain ⟨ob, cells, tb, ot, tcs, q1, _, q2, _⟩ := F.2.2.2
    exact nonf F.2.2.1 z q1 cells q2
  have new : ∀ b o, s.heap.get? b = some o → b ≠ a := fun b o q z => by
    subst z
    obtain ⟨o', q'⟩ := cov3 b o q nfr
    rw [F.2.1] at q'; cases q'
  have ne : ∀ b o, H' b = some o → b ≠ a := fun b o q z => by rw [z, ha] at q; cases q
  have upf : ∀ b o, b ∈ frs X.stack → s1.heap.get? b = some o → ∃ sl, h4.get? b = some { o with slots := sl } := fun b o hb q => up b o q (nonf F.2.2.1 hb q)
  refine ⟨ha, I.call' (s' := { s1 with heap := h4 }) (ch := []) os ⟨fun b o q n nb _ => F4.1 b o (cov2 b o q n nb), fun b o q n hb nx => ?_, fun b o q n nx => ?_, fun b o q nx => ?_, fun b xs q => ?_, fun b o v q => ?_, fun b ps q => ?_⟩ (fun b o q => ?_) bare fun b hb => absurd hb List.not_mem_nil⟩
  · obtain ⟨sl, q1⟩ := u.slot b o q n hb nx
    obtain ⟨sl2, q2⟩ := upf b _ hb q1
    exact ⟨sl2, q2⟩
  · rw [upd_ne (new b o q)]; exact u.free b o q n nx
  · by_cases hb : b ∈ frs X.stack
    · obtain ⟨o', q1⟩ := u.there b o q nx
      obtain ⟨sl2, q2⟩ := upf b _ hb q1
      exact ⟨_, q2⟩
    · obtain ⟨o', q1⟩ := cov3 b o q hb
      exact ⟨o', F4.1 b o' q1⟩
  · have q1 := u.tups b xs q
    rw [upd_ne (ne b _ q1)]; exact q1
  · have q1 := u.frzs b o v q
    rw [upd_ne (ne b _ q1)]; exact q1
  · obtain ⟨more, q1⟩ := u.tbls b ps q
    exact ⟨more, by rw [upd_ne (ne b _ q1)]; exact q1⟩
  · by_cases hb : b = a
    · subst hb
      rw [upd_same] at q
      cases q
      obtain ⟨ob, cells, tb, ot, tcs, q1, q2, q3, q4, _⟩ := F4.2.2.2
      refine ⟨⟨ob, cells, q1, q2, q3, q4⟩, ⟨ob, q1⟩, fun h1 h2 ⟨o1, c1, r1, r2, r3, r4⟩ k => ⟨o1, c1, k o1 r1, r2, r3, r4⟩⟩
    · rw [upd_ne hb] at q
      have z := (hok.air F.1 F4.1 cov) b o q
      exact z.stay (fun c v _ z => z) (fun c z => by rw [upd_ne (ne c _ z)]; exact z) fun c xs z => by rw [upd_ne (ne c _ z)]; exact z
/-- try: body; except T as n: suite (one that returns) -/
noncomputable def tTry (Nn : Nat) (ci : Addr → Prop) (n : Nat) (tb : XK → TS) (th : Addr → TS) : TS := fun D σ H =>
  tb (fun cls _ H' => ∃ C, cls = .ref C ∧ ci C ∧ ∀ (a : Addr) (σ' : St), σ'.length = Nn → H' a = none → th a { nx := fun _ _ => False, rt := D.rt } (σ'.set n (some (.ref a))) (upd H' a (excO C a))) D σ H
theorem ps_try {X : Cx} {body : List Stmt} {b0 : Stmt} {suite : List Stmt} {T n : Str} {tp hp pos : Pos} {i : Nat} {DC : Addr} {tb : XK → TS} {th : Addr → TS}
    (hm : X.mg T = some (.ref DC)) (hN : X.N.Nodup) (hi : X.N[i]? = some n) (hl : X.env.kindOf n = some .local)
    (hb : ∀ (pn' : List (Addr × Obj)) (xe' : Value → Shared → Prop) (E1 : XK), Passes (CXE X.prog X.w) (XB X pn' xe') E1 → PSs (XB X pn' xe') body (tb E1))
    (hh : ∀ (pn' : List (Addr × Obj)) (a : Addr), PSs (XH X pn' a) (b0 :: suite) (th a)) (hg : Gl X T := by rfl) (hstk : X.stack = X.env :: X.outer := by rfl) (hfr : X.env.frame = some X.env.locals := by rfl) (hk : X.env.scope.kind = .function := by rfl) (hd : (T == ("__debug__" : Str)) = false := by decide) :
    PS X (.Try body [.ExceptHandler (some (.Name T tp)) (some n) (b0 :: suite) hp] [] [] pos) (tTry X.N.length (fun C => PySem.W.exmOne X.K (.ref C) (.ref DC) = some true) i tb th) := by
  intro pins s0 σ0 H0 D I0 h0
  refine wpAny_Try_except ?_
  have I1 := I0.toB (fun e s1 => ∃ σ H s, Inv X pins σ H s ∧ CXE X.prog X.w X.stack H s (fun cls _ H' => ∃ C, cls = .ref C ∧ PySem.W.exmOne X.K (.ref C) (.ref DC) = some true ∧ ∀ (a : Addr) (σ' : St), σ'.length = X.N.length → H' a = none → th a { nx := fun _ _ => False, rt := D.rt } (σ'.set i (some (.ref a))) (upd H' a (excO C a))) e s1)
  have run := hb _ _ _ (fun pins' σ H s e s' I z => ⟨σ, H, s, I.ofB, z⟩) [] s0 σ0 H0 D I1 h0
  refine wpAny_mono run (fun f s1 hs => ?_) fun e s1 hs => ?_
  · cases f with
    | next =>
      obtain ⟨σ', H', I', q⟩ := hs
      exact wpAny_execs_nil ⟨σ', H', I'.ofB, q⟩
    | brk => obtain ⟨σ', H', I', q⟩ := hs; exact ⟨σ', H', I'.ofB, q⟩
    | cont => obtain ⟨σ', H', I', q⟩ := hs; exact ⟨σ', H', I'.ofB, q⟩
    | ret v => obtain ⟨x, σ', H', I', r, q⟩ := hs; exact ⟨x, σ', H', I'.ofB, r, q⟩
  · obtain ⟨σ, H, s, I, a, C, B, H', rfl, os, bare, u, hok, F, cov, cov2, cov3, C', eC, hex, hth⟩ := hs
    cases eC
    have Fs := F
    rw [hstk] at Fs
    refine note_on (by rw [I.ok.frames, hstk]) hfr Fs fun h2 F2 u2 => ?_
    refine land_on F2 fun h3 F3 u3 => ?_
    have F3' : Fly B X.stack a C .none h3 := by rw [hstk]; exact F3
    obtain ⟨ha, I3⟩ := I.caught os bare u hok F cov cov2 cov3 F3' (u2.trans u3)
    obtain ⟨ob, cells, tb', ot, tcs, ge, gc, _⟩ := id F3.2.2.2
    have LT : PySem.W.Looks (model X.prog X.w) h3 (typeOf (.ref a)) (.ref C) := by
      have z : PySem.W.Looks (model X.prog X.w) h3 (typeOf (.ref a)) ob.cls := (PySem.W.Looks.ld ge).andThen .now
      rw [gc.1] at z; exact z
    refine wpAny_handleBy_cons (codeAny_handlers_test ?_) (by intro z; cases z)
    refine ld_glob (I3.toH a) (show Gl (XH X (X.pn ++ pins) a) T from hg) hm ?_ hd
    refine PySem.W.exm_one (M := model X.prog X.w) I3.kIn LT hex _ _ _ _ (fun _ _ z => z) ?_
    refine codeAny_handlers_suite_as ?_
    refine land_on F3 fun h4 F4 u4 => ?_
    have F4' : Fly B X.stack a C .none h4 := by rw [hstk]; exact F4
    obtain ⟨_, I4⟩ := I.caught os bare u hok F cov cov2 cov3 F4' ((u2.trans u3).trans u4)
    refine store_ok I4 hN hi (.inl hl) (v := .ref a) rfl (fun s5 I5 => ?_) (.inr hl)
    refine wpAny_mono (hh (X.pn ++ pins) a [] s5 _ _ _ (I5.toH a) (hth a σ I.len ha)) (fun f s6 hs6 => ?_) fun _ _ z => z.elim
    cases f with
    | next => obtain ⟨_, _, _, z⟩ := hs6; exact z.elim
    | brk => obtain ⟨_, _, _, z⟩ := hs6; exact z.elim
    | cont => obtain ⟨_, _, _, z⟩ := hs6; exact z.elim
    | ret v =>
      obtain ⟨x6, σ6, H6, I6, r6, q6⟩ := hs6
      have I6' : Inv X pins σ6 H6 s6 := I4.ofH I6
      refine wpAny_bind (wpAny_bindName (store_ok I6' hN hi (.inl hl) (v := .non) rfl (fun s7 I7 => ?_) (.inr hl)))
      unfold unbindBehindTheSuite
      obtain ⟨m, hn, hlk⟩ := id I7.loc
      have hi' : (σ6.set i (some V.non))[i]? = some (some V.non) := by
        rw [List.getElem?_set_self]
        rw [I6'.len]; exact (List.getElem?_eq_some_iff.mp hi).1
      obtain ⟨v7, _, lk⟩ := hlk i n .non hi hi' (.inl hl)
      have hv : m n = some v7 := by
        rcases lk with ⟨_, z⟩ | ⟨z, _⟩
        · exact z
        · rcases z with z | z <;> (rw [hl] at z; cases z)
      refine wpAny_onRaise (wpAny_unbindName_local hl hn hv (by rw [hk]; rfl) fun h8 w8 hn8 sb8 => ?_)
      exact ⟨x6, _, H6, I7.lose sb8 hn8, r6, q6⟩
end L2

set_option Elab.async false
set_option linter.all false
set_option maxRecDepth 100000
set_option maxHeartbeats 4000000
namespace L2
open PySem PySem.Spec PyProof.Rows PySem.W
/-- what of the text an own exception class must have for isinstance -/
structure ExcK (K : Frag) (C : Addr) : Prop where
  ga : findIn K (.ref C) "__getattribute__" = some (some (.builtin "BaseException.__getattribute__"))
  gt : findIn K (.ref C) "__getattr__" = some none
  ca : findIn K (.ref C) "__class__" = some (some (.builtin "object.__class__"))
  sg : specialIn K (.builtin "object.__class__") "__get__" = some (some (.builtin "getset_descriptor.__get__"))
  tk : takesIn K (.builtin "object.__class__") = some true
  mo : mroIn K C (.type "object") = some true
  hd : hasDictIn K C = true
  be : subIn K (.ref C) (.type "BaseException") = some true
section
variable {prog : Program} {w : World} {A : Around} {E : Value → Shared → Prop} {K : Frag} {x C : Addr} {ox : Obj} {h : Heap} {g : Array GenState} {d : Drawn} {t : Nat} {os : OsState}
theorem exc_find (k : ExcK K C) : findObj K C none "__class__" = some (.bind (.builtin "getset_descriptor.__get__") (.builtin "object.__class__")) := by
  obtain ⟨cd, hc, _⟩ := any_some k.hd
  unfold findObj
  rw [hc, Option.bind_some, k.ca, Option.bind_some]
  simp [k.sg, k.tk]
theorem class_entry_exc {tok : Tok} {Q : Fin → Shared → Prop} (k : ExcK K C) (X : K.In h) (I : InstAt h x ox C none) (hq : Q (.done (.ret (.ref C))) ⟨h, g, d, t, os⟩) :
    wpAny (model prog w) A (Builtin.«object.__getattribute__» ⟨[.ref x, .str "__class__" tok], []⟩) Q E ⟨h, g, d, t, os⟩ := by
  have L0 := I.type (M := model prog w)
  have L1 := looks_find (M := model prog w) X I (exc_find k)
  unfold Builtin.«object.__getattribute__»
  repeat (any_goals (first | assumption | with_reducible refine L0.at ?_ | with_reducible refine L1.at ?_ | wp_step))
  exact class_get (s := ⟨h, g, d, t, os⟩) X I k.mo (wpAny_pure hq)
theorem check_ga_exc {M : Model} {nameV : Value} {Q : Unit → Shared → Prop} (k : ExcK K C) (X : K.In h) (I : InstAt h x ox C none) (hq : Q () ⟨h, g, d, t, os⟩) :
    wpAny M A (checkBuiltinCall "BaseException.__getattribute__" ⟨[.ref x, nameV], []⟩) Q E ⟨h, g, d, t, os⟩ := by
  have kd : builtinKind "BaseException.__getattribute__" = some .slot := by decide +kernel
  have sp : splitId "BaseException.__getattribute__" = some ("BaseException", "__getattribute__") := by decide +kernel
  have LI : Looks M h (isInstance (.ref x) (.type "BaseException")) true := (I.type (M := M)).andThen (looks_subIn X k.be)
  have ar := F.args_bexc_ga (.ref x) nameV
  simp only [checkBuiltinCall, kd, sp]
  refine wpAny_bind (LI.at ?_)
  repeat (any_goals (first | assumption | wp_step))
theorem class_call_exc {tok : Tok} {R : Result → Shared → Prop} (k : ExcK K C) (X : K.In h) (I : InstAt h x ox C none) (hq : R (.ok (.ret (.ref C))) ⟨h, g, d, t, os⟩) :
    codeAny (model prog w) A (.call (.builtin "BaseException.__getattribute__") ⟨[.ref x, .str "__class__" tok], []⟩) R ⟨h, g, d, t, os⟩ :=
  codeAny_call_builtin F.attrBase_ValueError.ga.plain F.entry_bexc_ga (check_ga_exc k X I (class_entry_exc k X I hq))
theorem class_by_exc {tok : Tok} {Q : Value → Shared → Prop} (k : ExcK K C) (X : K.In h) (I : InstAt h x ox C none) (hq : Q (.ref C) ⟨h, g, d, t, os⟩) :
    wpAny (model prog w) A (getAttrBy (.ref x) (.str "__class__" tok) false) Q E ⟨h, g, d, t, os⟩ := by
  have f3 := F.attrBase_ValueError.ga.bind (.ref x)
  have x2 : (Value.builtin "BaseException.__getattribute__" == Value.builtin "object.__getattribute__") = false := by decide +kernel
  have x1 : (onTheHeap (Value.ref C) && Value.builtin "BaseException.__getattribute__" == Value.builtin "object.__getattribute__") = false := by rw [x2]; rfl
  have L0 := I.type (M := model prog w)
  have L1 := looks_findIn (M := model prog w) X k.ga
  have L2 := looks_findIn (M := model prog w) X k.gt
  repeat (any_goals (first | assumption | with_reducible refine L0.at ?_ | with_reducible refine L1.at ?_ | with_reducible refine L2.at ?_ | wp_step))
  refine class_call_exc k X I ?_
  repeat (any_goals (first | assumption | wp_step))
theorem class_attr_exc {Q : Option Value → Shared → Prop} (k : ExcK K C) (X : K.In h) (I : InstAt h x ox C none) (hq : Q (some (.ref C)) ⟨h, g, d, t + 1, os⟩) :
    wpAny (model prog w) A (getAttr? (.ref x) "__class__") Q E ⟨h, g, d, t, os⟩ := by
  unfold getAttr? getAttrBy?
  repeat (any_goals (first | assumption | with_reducible apply class_by_exc k X I | wp_step))
theorem kitx_exc (k : ExcK K C) : KitX K (.ref x) (.ref C) (fun h => ∃ ox, InstAt h x ox C none) where
  ty := fun _ _ _ ⟨_, I⟩ => I.type
  it := fun _ _ X _ => by
    obtain ⟨cd, hc, _⟩ := any_some k.hd
    unfold clsIn at hc
    split at hc
    · rename_i c1 d1 cd1 sl1 hk
      intro A' Q' E' s' kk q
      unfold isType loadHead
      exact wpAny_bind (wpAny_loadPart (kk _ _ (X _ _ hk)) (wpAny_pure q))
    · cases hc
  ne := fun h tp dd its n sl X htp => by
    obtain ⟨cd, hc, _⟩ := any_some k.hd
    refine Bool.eq_false_iff.mpr fun q => ?_
    have e1 : C = tp := Value.ref.inj (beq_iff_eq.mp q)
    subst e1
    unfold clsIn at hc
    split at hc
    · rename_i c1 d1 cd1 sl1 hk
      cases ((X _ _ hk).symm.trans htp)
    · cases hc
  ca := fun {_ _ _ _ _ s} X ⟨ox, I⟩ hq => by
    obtain ⟨h, g, d, t, os⟩ := s
    exact class_attr_exc k X I hq
end
section
variable {X : Cx}
theorem exc_inst {C a : Addr} {h : Heap} (p : excP C a h) : ∃ ox, InstAt h a ox C none := by
  obtain ⟨ob, cells, q1, ⟨q2, q3⟩, q4, _⟩ := p
  refine ⟨ob, q1, q2, ?_, ?_⟩
  · unfold notCls
    rw [q4]
  · rw [q3]; trivial
/-- isinstance(e, D) of an exception that was caught -/
noncomputable def rIsE (K : Frag) (c : V) (cv : Value) : List V → Hp → VK → Prop := fun xs H Q => ∃ a C b, xs = [.ref a, c] ∧ H a = some (excO C a) ∧ ExcK K C ∧ kitOne K (.ref C) cv = some b ∧ Q (.bl b) H
theorem call_isE {D : Addr} : CallR X (.builtin "isinstance") (rIsE X.K (.ref D) (.ref D)) := by
  intro pins s σ H xs us Q I r h
  obtain ⟨a, C, b, rfl, ha, k, e, q⟩ := h
  obtain ⟨u, v, rfl, ru, rv⟩ := r.two
  cases ru; cases rv
  obtain ⟨p, _, _⟩ := (show ObjOk X.prog X.w H s.heap a (excO C a) from I.hok a _ ha)
  exact kia_one (kitx_exc k) I.kIn (exc_inst p) e (fun z => nomatch z) fun tk => ⟨.bl b, H, I.tok tk, rfl, q⟩
theorem call_isET {T : String} : CallR X (.builtin "isinstance") (rIsE X.K (.ty T) (.type T)) := by
  intro pins s σ H xs us Q I r h
  obtain ⟨a, C, b, rfl, ha, k, e, q⟩ := h
  obtain ⟨u, v, rfl, ru, rv⟩ := r.two
  cases ru; cases rv
  obtain ⟨p, _, _⟩ := (show ObjOk X.prog X.w H s.heap a (excO C a) from I.hok a _ ha)
  exact kia_one (kitx_exc k) I.kIn (exc_inst p) e (fun z => nomatch z) fun tk => ⟨.bl b, H, I.tok tk, rfl, q⟩
end
end L2

set_option Elab.async false
set_option linter.all false
set_option maxRecDepth 100000
set_option maxHeartbeats 4000000
namespace L2
open PySem PySem.Spec PyProof.Rows
/-! ### while an exception is handled: the end of a range -/
section
variable {prog : Program} {w : World} {A : Around} {E : Value → Shared → Prop} {s : Shared}
theorem entry_unchain : entryFor table "proto.unchain" = some Builtin.«proto.unchain» := entryFor_of_fast (by kernel_rfl)
theorem unchain_none {e hx : Addr} {ob : Obj} {cells : Array Value} {Q : Value → Shared → Prop} (gh : s.heap.get? hx = some ob) (gd : ob.data = .fields cells) (g2 : cells[2]? = some .none) (q : Q .none s) :
    wpAny (model prog w) A (runValue (.builtin "proto.unchain" ⟨[.ref e, .ref hx, .ref hx, .bool false], []⟩)) Q E s := by
  refine wpAny_runValue (codeAny_builtin entry_unchain ?_)
  unfold Builtin.«proto.unchain»
  refine wpAny_bind (wpAny_field gh gd g2 ?_)
  rw [if_pos (by rfl)]
  first | exact wpAny_pure q | (refine wpAny_bind ?_; exact wpAny_pure (wpAny_pure q)) | (repeat (any_goals (first | assumption | wp_step)))
theorem raise_handled {e hx : Addr} {oe ob : Obj} {cells ce : Array Value} {α : Type} {Q : α → Shared → Prop} (hh : A.handled = some (.ref hx)) (gh : s.heap.get? hx = some ob) (gd : ob.data = .fields cells) (g2 : cells[2]? = some .none)
    (ge : s.heap.get? e = some oe) (ged : oe.data = .fields ce) (gz : 2 < ce.size) (ne : hx ≠ e) (q : E (.ref e) { s with heap := s.heap.update e (Obj.mapFields (·.setIfInBounds 2 (.ref hx))) }) :
    wpAny (model prog w) A (raiseNew (.ref e) : Sem α) Q E s := by
  simp only [raiseNew]
  refine wpAny_bind (wpAny_handled ?_)
  rw [hh]
  have b1 : (Value.ref hx != Value.ref e) = true := by simp [ne]
  dsimp only
  rw [if_pos b1]
  refine wpAny_bind (wpAny_holding (unchain_none gh gd g2 ?_))
  refine wpAny_bind ?_
  unfold updateField
  refine wpAny_bind (wpAny_load ge ?_)
  rw [ged]
  dsimp only
  rw [if_pos gz]
  exact wpAny_update ge (wpAny_throw q)
theorem next_endH {it hx C : Addr} {x left step : Int} {Q : Option Value → Shared → Prop} (hh : A.handled = some (.ref hx)) (p : excP C hx s.heap) (hit : IsRangeIter s.heap it x left step) (hleft : left ≤ 0)
    (hQ : ∀ h', (∀ b o, s.heap.get? b = some o → h'.get? b = some o) → Q none { s with heap := h' }) : wpAny (model prog w) A (pyNext (.ref it)) Q E s := by
  have ty : s.TypeIs (.ref it) "range_iterator" := ⟨_, hit, rfl⟩
  obtain ⟨ob, cells, gh, _, gd, g2⟩ := p
  unfold pyNext
  refine wpAny_bind (wpAny_attempt (wpAny_callSpecial?_slot (name := Str.ofString "__next__") ty F.slot_range_iterator_next (wpAny_call_entry F.slot_range_iterator_next ty F.entry_range_iterator_next ?_ (F.args_range_iterator_next_1 _))))
  change wpAny _ _ (field (.ref it) 0 >>= _) _ _ s
  refine wpAny_bind (wpAny_field hit rfl (x := rawInt x) rfl (show wpAny _ _ (field (.ref it) 1 >>= _) _ _ s from wpAny_bind (wpAny_field hit rfl (x := rawInt left) rfl (show wpAny _ _ (field (.ref it) 2 >>= _) _ _ s from wpAny_bind (wpAny_field hit rfl (x := rawInt step) rfl ?_)))))
  change wpAny _ _ (if left ≤ 0 then _ else _) _ _ s
  rw [if_pos hleft]
  refine wpAny_bind (wpAny_rule (wpAny_bind ?_))
  change wpAny _ _ (newExc (.type "StopIteration") [] >>= _) _ _ _
  refine wpAny_bind ?_
  simp only [newExc, newTuple]
  refine wpAny_bind (wpAny_newObj_type (T := "tuple") ?_ (by size_fits))
  refine wpAny_bind (m := firstArgMember _ _) (wpAny_of_eq (a := Value.none) (by first | rfl | (simp only [firstArgMember]; rfl)) (wpAny_newObj_type ?_ (by size_fits)))
  generalize hp1 : (s.heap.push _ : Heap) = g1
  have k1 : ∀ b o, s.heap.get? b = some o → g1.get? b = some o := fun b o q => by rw [← hp1]; exact Heap.get?_push_of_some _ q
  generalize hob : ({ cls := Value.type "StopIteration", dict := none, data := _ } : Obj) = so
  have k2 : ∀ b o, s.heap.get? b = some o → (g1.push so).get? b = some o := fun b o q => Heap.get?_push_of_some _ (k1 b o q)
  have ged : ∃ ce : Array Value, so.data = .fields ce ∧ 2 < ce.size := ⟨_, by rw [← hob], by simp; omega⟩
  obtain ⟨ce, ged, gz⟩ := ged
  have ge : (g1.push so).get? g1.objs.size = some so := Heap.get?_push_size _ (Obj.isFreed_of_fields ged)
  have cl : so.cls = .type "StopIteration" := by rw [← hob]
  have nhx : hx ≠ g1.objs.size := Nat.ne_of_lt (Heap.lt_size (k1 _ _ gh))
  have up : ∀ b o, s.heap.get? b = some o → ((g1.push so).update g1.objs.size (Obj.mapFields (·.setIfInBounds 2 (.ref hx)))).get? b = some o := fun b o q => by
    rw [Heap.get?_update_other _ _ (Nat.ne_of_gt (Heap.lt_size (k1 b o q)))]; exact k2 b o q
  refine raise_handled (hx := hx) (oe := so) (ce := ce) hh (k2 _ _ gh) gd g2 ge ged gz nhx ?_
  dsimp only
  refine wpAny_bind (wpAny_isInstance (T := "StopIteration") (b := true) ⟨_, Heap.get?_update_self _ ge (Obj.isFreed_of_fields (Obj.data_mapFields ged _)), (Obj.cls_mapFields _ _).trans cl⟩ isSubtype_stop ?_)
  exact wpAny_pure (hQ _ up)
end
/-! ### walks while hx is handled -/
structure TurnH (hx : Addr) (P : Program) (w : World) (tg : Expr) (J : It) (fp : List Addr) (it : Addr) (tn : Nat → Heap → Prop) : Prop where
  mem : it ∈ fp
  obj : ∀ i h, tn i h → ∀ b ∈ fp, ∃ o, h.get? b = some o ∧ ∀ v, o.data ≠ .cell v
  keep : ∀ i h h', tn i h → (∀ b ∈ fp, ∀ o, h.get? b = some o → h'.get? b = some o) → tn i h'
  item : ∀ (X : Cx), X.prog = P → X.w = w → X.A.handled = some (.ref hx) → ∀ (i : Nat) (pins : List (Addr × Obj)) (s : Shared) (σ : St) (H : Hp) (E : Value → Shared → Prop), Inv X pins σ H s → (∀ b ∈ fp, FpOk X pins H b) → tn i s.heap → J.go i H →
    wpAny (model P w) X.A (pyNext (.ref it)) (fun r s1 => ∃ u, r = some u ∧
      wpAny (model P w) X.A (letOwnedTupleGo tg (.ref it) u) (fun _ s2 => ∃ x H', Inv X pins σ H' s2 ∧ RelV x u ∧ J.yld i H x H' ∧ tn (i + 1) s2.heap ∧ ∀ b ∈ fp, H' b = none) E s1) E s
  done : ∀ (X : Cx), X.prog = P → X.w = w → X.A.handled = some (.ref hx) → ∀ (i : Nat) (pins : List (Addr × Obj)) (s : Shared) (σ : St) (H : Hp) (E : Value → Shared → Prop), Inv X pins σ H s → (∀ b ∈ fp, FpOk X pins H b) → tn i s.heap → J.stop i H →
    wpAny (model P w) X.A (pyNext (.ref it)) (fun r s1 => r = none ∧ Inv X pins σ H s1) E s
  self : ∀ (A : Around) (i : Nat) (s : Shared) (Q : Value → Shared → Prop) (E : Value → Shared → Prop), tn i s.heap → Q (.ref it) s → wpAny (model P w) A (pyIter (.ref it)) Q E s
noncomputable def PIEH (hx : Addr) (X : Cx) (pins : List (Addr × Obj)) (σ : St) (tg : Expr) (R : It → Hp → Prop) (itv : Value) (s2 : Shared) : Prop :=
  ∃ (it : Addr) (fp : List Addr) (tn : Nat → Heap → Prop) (J : It) (H' : Hp), itv = .ref it ∧ Inv X pins σ H' s2 ∧ TurnH hx X.prog X.w tg J fp it tn ∧ tn 0 s2.heap ∧ (∀ b ∈ fp, FpOk X pins H' b) ∧ R J H'
noncomputable def PIH (hx : Addr) (X : Cx) (tg iter : Expr) (wi : TI) : Prop :=
  ∀ (pins : List (Addr × Obj)) (s : Shared) (σ : St) (H : Hp) (R : It → Hp → Prop), Inv X pins σ H s → wi σ H R →
    wpAny (model X.prog X.w) X.A (eval iter X.env) (fun v s1 => wpAny (model X.prog X.w) X.A (pyIter v) (PIEH hx X pins σ tg R) X.xe s1) X.xe s
/-- lo, lo + 1, .. while hx (of the class at C) is handled -/
noncomputable def ItrH (hx : Addr) (lo : Int) (n : Nat) : It := ⟨fun i _ => i < n, fun i H x H' => H' = H ∧ x = .int (lo + i), fun i H => n ≤ i ∧ ∃ C, H hx = some (excO C hx)⟩
theorem turn_rangeH {hx : Addr} {P : Program} {w : World} {tg : Expr} (it : Addr) (lo : Int) (n : Nat) : TurnH hx P w tg (ItrH hx lo n) [it] it (fun i h => IsRangeIter h it (lo + (i : Nat) * 1) ((n : Int) - (i : Nat)) 1) where
  mem := by simp
  obj := fun i h st b hb => by
    have e : b = it := by simpa using hb
    subst e
    exact ⟨_, st, fun v z => by
      have z' : Data.fields _ = Data.cell v := z
      cases z'⟩
  keep := fun i h h' st k => k it (by simp) _ st
  item := by
    intro X hP hw hc i pins s σ H E I hf st hg
    subst hP hw
    obtain ⟨f0, f1, f2, f3, f4, f5⟩ := hf it (by simp)
    refine wpAny_pyNext_range_item st (by have : i < n := hg; omega) fun h' st' sb => ?_
    have I1 : Inv X pins σ H { s with heap := h', toks := s.toks + 1 } := I.turned (fun b o hb e => (sb.2 b hb).trans e) f0 f1 f3 f4 f5
    have e1 : lo + ((i + 1 : Nat) : Int) * 1 = lo + (i : Int) * 1 + 1 := by omega
    have e2 : (n : Int) - ((i + 1 : Nat) : Int) = (n : Int) - (i : Int) - 1 := by omega
    have st2 : IsRangeIter h' it (lo + ((i + 1 : Nat) : Int) * 1) ((n : Int) - ((i + 1 : Nat) : Int)) 1 := by rw [e1, e2]; exact st'
    refine ⟨_, rfl, go_of (s := { s with heap := h', toks := s.toks + 1 }) (n := "range_iterator") st' rfl rfl (by decide) ⟨.int (lo + i), H, I1, ⟨s.toks, ?_⟩, ⟨rfl, rfl⟩, st2, fun b hb => (hf b hb).1⟩⟩
    rw [Int.mul_one]
  done := by
    intro X hP hw hc i pins s σ H E I hf st hg
    subst hP hw
    obtain ⟨f0, f1, f2, f3, f4, f5⟩ := hf it (by simp)
    obtain ⟨hn, C, hC⟩ := hg
    obtain ⟨p, _, _⟩ := (show ObjOk X.prog X.w H s.heap hx (excO C hx) from I.hok hx _ hC)
    exact next_endH hc p st (by omega) fun h' kk => ⟨rfl, I.kept (t' := s.toks) fun b o e => kk b o e⟩
  self := fun _ _ _ _ _ st h => wpAny_pyIter_rangeiter st h
section
variable {X : Cx} {tg : Expr} {hx : Addr}
theorem range_itH {pins : List (Addr × Obj)} {σ : St} {H : Hp} {s : Shared} {R : It → Hp → Prop} {E : Value → Shared → Prop} {lo hi : Int} {t u v : Tok} {tk : Nat} (I : Inv X pins σ H s) (h1 : -(2 ^ 62) ≤ lo) (h2 : lo < 2 ^ 62) (h3 : -(2 ^ 62) ≤ hi) (h4 : hi < 2 ^ 62)
    (q : R (ItrH hx lo (hi - lo).toNat) H) : wpAny (model X.prog X.w) X.A (pyIter (.ref s.heap.objs.size)) (PIEH hx X pins σ tg R) E { s with heap := s.heap.push { cls := .type "range", data := .fields #[.int lo t, .int hi u, .int 1 v] }, toks := tk } := by
  refine wpAny_pyIter_range (IsRange.new ..) (small_one h1 h2 h3 h4) ?_
  have I1 : Inv X pins σ H { s with heap := s.heap.push { cls := .type "range", data := .fields #[.int lo t, .int hi u, .int 1 v] }, toks := tk } := I.kept fun b o e => Heap.get?_push_of_some _ e
  refine ⟨(s.heap.push { cls := .type "range", data := .fields #[.int lo t, .int hi u, .int 1 v] }).objs.size, [(s.heap.push { cls := .type "range", data := .fields #[.int lo t, .int hi u, .int 1 v] }).objs.size], _, _, H, rfl,
    I1.kept (t' := tk) fun b o e => Heap.get?_push_of_some _ e, turn_rangeH _ lo (hi - lo).toNat, ?_, fun b hb => ?_, q⟩
  · have e1 : lo + ((0 : Nat) : Int) * 1 = lo := by simp
    have e2 : (((hi - lo).toNat : Nat) : Int) - ((0 : Nat) : Int) = Builtin.Range.rangeSize lo hi 1 := by rw [rangeSize_one]; split <;> omega
    show IsRangeIter _ _ (lo + ((0 : Nat) : Int) * 1) ((((hi - lo).toNat : Nat) : Int) - ((0 : Nat) : Int)) 1
    rw [e1, e2]
    exact Heap.get?_push_size _ rfl
  · have e : b = (s.heap.push { cls := .type "range", data := .fields #[.int lo t, .int hi u, .int 1 v] }).objs.size := by simpa using hb
    subst e
    exact I1.fpOk (Nat.le_refl _) (I1.hok.fresh (Nat.le_refl _))
noncomputable def iRng1H (hx : Addr) (ta : TA) : TI := fun σ H R => ta σ H fun vs H1 => ∃ j : Int, vs = [.int j] ∧ -(2 ^ 62) ≤ j ∧ j < 2 ^ 62 ∧ R (ItrH hx 0 j.toNat) H1
theorem pi_range1H {a : Expr} {ta : TA} {p pos : Pos} (hg : Gl X "range") (hm : X.mg "range" = none) (ha : PA X [a] ta) (hs : starEach [a] X.env = [(false, eval a X.env)] := by rfl) : PIH hx X tg (.Call (.Name "range" p) [a] [] pos) (iRng1H hx ta) := by
  intro pins s σ H R I h
  refine Call_ (ld_blt I hg hm boot_range (PyProof.Rows.callWith_type1 (thn (ha pos pins s σ H _ I h) fun us s1 hz41 => ?_) hs rfl))
  obtain ⟨vs, H1, I1, r1, q1⟩ := hz41
  obtain ⟨j, e, q1, q2, q⟩ := q1
  subst e
  obtain ⟨u, rfl, t, rfl⟩ := r1.one
  exact call_range_1 (range_itH I1 (by omega) (by omega) q1 q2 (by simpa using q))
end
theorem lc_coreH {ax : Addr} {X : Cx} {xs : List Str} {ix : List Nat} {scope : Scope} {elt tg iter : Expr} {ifs : List Expr} {pos : Pos} {wi : TI} {g : TG} {tt : TT} {te : TE}
    (S : CompScope X xs ix scope) (hc : X.A.handled = some (.ref ax)) (hi : PIH ax X tg iter wi)
    (hg : ∀ C fp s H, PG (cxC X xs ix scope C fp s H) tg g) (ht : ∀ C fp s H, PTs (cxC X xs ix scope C fp s H) ifs tt) (he : ∀ C fp s H, PE (cxC X xs ix scope C fp s H) elt te)
    {pins : List (Addr × Obj)} {s : Shared} {σ : St} {H : Hp} {Q : VK} (I : Inv X pins σ H s) (h : tLC xs ix wi g tt te σ H Q) {use : Option (Value → Sem Unit)} {R : Value → Shared → Prop}
    (fin : ∀ (acc C : Addr) (H' : Hp) (s' : Shared) (m : Str → Option Value), Q (.ref acc) H' → s'.heap.Ns C m → (∀ h', Heap.SameBut C s'.heap h' → ∀ tk, Inv X pins σ H' { s' with heap := h', toks := tk }) → (X.s₀.heap.objs.size ≤ C ∧ C ≠ X.env.locals ∧ (∀ x c, X.env.cells.lookup x = some c → c ≠ C) ∧ (∀ p ∈ X.pn ++ pins, p.1 ≠ C) ∧ H' C = none) → compPost (model X.prog X.w) X.A X.xe use R (.ref acc) C (.ok .next) s') :
    wpAny (model X.prog X.w) X.A (eval iter X.env) (fun x s₁ => wpAny (model X.prog X.w) X.A (pyIter x) (fun it s₂ => wpAny (model X.prog X.w) X.A (newList []) (fun acc s₃ =>
      wpAny (model X.prog X.w) X.A (newFunctionEnv scope X.env.globals (clF X.env scope.names []) [] X.env.qual none .none (some X.env)) (fun cenv s₄ =>
        codeAny (model X.prog X.w) X.A (.compStart (.ListComp elt [⟨tg, iter, ifs, 0⟩] scope pos) 0 it acc { cenv with scope := relabel scope X.env }) (compPost (model X.prog X.w) X.A X.xe use R acc cenv.locals) s₄) X.xe s₃) X.xe s₂) X.xe s₁) X.xe s :=
  lc_coreG (Reg := fun Y => Y.A.handled = some (.ref ax)) S (fun Y _ _ e => e.trans hc)
    (fun pins s σ H R I q => thn (hi pins s σ H R I q) fun v s1 h1 => thn h1 fun itv s2 h2 => by
      obtain ⟨it, fp, tn, J, H', e, I', T, r⟩ := h2
      exact ⟨it, fp, tn, J, H', e, I', ⟨T.mem, T.obj, T.keep, T.item, T.done, T.self⟩, r⟩) hg ht he I h fin
theorem ps_setLCH {ax : Addr} {X : Cx} {xs : List Str} {ix : List Nat} {scope : Scope} {elt tg iter : Expr} {ifs : List Expr} {cpos pos pos' : Pos} {wi : TI} {g : TG} {tt : TT} {te : TE} {i : Nat} {x : Str}
    (hN : X.N.Nodup) (hin : X.N[i]? = some x) (hx : Loc X.env.scope x)
    (S : CompScope X xs ix scope) (hc : X.A.handled = some (.ref ax)) (hi : PIH ax X tg iter wi)
    (hg : ∀ C fp s H, PG (cxC X xs ix scope C fp s H) tg g) (ht : ∀ C fp s H, PTs (cxC X xs ix scope C fp s H) ifs tt) (he : ∀ C fp s H, PE (cxC X xs ix scope C fp s H) elt te)
    (hsw : swapsWith (.ListComp elt [⟨tg, iter, ifs, 0⟩] scope cpos) (some (.Name x pos')) pos.line X.env = pure true)
    (hf : X.fn x = true ∨ X.env.scope.names.lookup x = some .local := by first | exact .inl rfl | exact .inr rfl | assumption)
    (hs : ∀ x, foldedSetIterable iter X.env x = pure x := by intro _; rfl) :
    PS X (.Assign [.Name x pos'] (.ListComp elt [⟨tg, iter, ifs, 0⟩] scope cpos) pos) (tAsg (tLC xs ix wi g tt te) (gName i)) := by
  intro pins s σ H D I h
  have hcl : ∀ n, (n, NameKind.free) ∈ scope.names → (X.env.cells.lookup n).isSome = true := fun n hn => by
    obtain ⟨c, e⟩ := I.ok.has n (S.fre n hn)
    rw [e]; rfl
  rw [exec_Assign_Name_used _ _ _ _ hsw]
  refine wpAny_bind (wpAny_standAt (wpAny_bind ?_))
  rw [arm_evalThenUse_ListComp]
  refine wpAny_bind (thn (Q := fun _ s' => SP X pins D .next s') (wpAny_comprehension_free (g := ⟨tg, iter, ifs, 0⟩) (gs := []) (use := some (assign (.Name x pos') X.env)) rfl hs (closureFor_clF hcl) S.kind S.loc ?_) fun _ s1 h1 => wpAny_pure (wpAny_pure h1))
  refine lc_coreH S hc hi hg ht he I h fun acc C H' s' m q hn k hC => ?_
  have I' : Inv X pins σ H' s' := k s'.heap (Heap.SameBut.refl _ _) s'.toks
  show wpAny (model X.prog X.w) X.A (assign (.Name x pos') X.env (.ref acc)) (fun _ s'' => ∃ m, s''.heap.Ns C m ∧ ∀ h', Heap.SameBut C s''.heap h' → SP X pins D .next { s'' with heap := h' }) X.xe s'
  refine wpAny_assign_Name (store_ok2 I' hN hin hx (v := .ref acc) rfl (fun s'' I'' hz42 => ?_) hf)
  obtain ⟨a, hsa, ha⟩ := hz42
  refine ⟨m, hn.sameBut hsa ?_, fun h' hsb => ⟨_, H', I''.letgo hsb hC, q⟩⟩
  rcases ha with rfl | ha
  · exact hC.2.1
  · exact fun z => hC.2.2.1 x a ha z.symm
/-! ### a def called while hx is handled -/
structure RoomH (k : Nat) (A : Around) : Prop where
  dp : A.depth + 3 * k + 5 < recursionLimit
  un : A.units + 16 * k + 200 < cLine
theorem Room.toH {k : Nat} {A : Around} (r : Room k A) (o : Option Value) : RoomH k (A.mark o) := ⟨r.dp, r.un⟩
noncomputable abbrev SpH := Addr → List V → Hp → VK → Prop
structure FnOkH (P : Program) (w : World) (K : PySem.W.Frag) (mg : Str → Option Value) (base : Heap) (k : Nat) (f : Addr) (fd : FuncData) (ps : List Str) (sp : SpH) : Prop where
  len : ∀ hx vs H Q, sp hx vs H Q → vs.length = ps.length
  run : ∀ (hx : Addr) (A : Around) (outer : List Env) (s : Shared) (H : Hp) (args : Args) (us : List Value) (vs : List V) (Q : VK), RoomH k A → A.handled = some (.ref hx) → Env0 P w K mg base A outer s H → BindsTo s fd args (ps.zip us) → Vals vs us → sp hx vs H Q →
    codeAny (model P w) A (.call (.ref f) args) (CR CX0 outer P w H s Q (fun _ _ _ => False)) s
noncomputable def cxH (P : Program) (w : World) (K : PySem.W.Frag) (mg : Str → Option Value) (base : Heap) (N : List Str) (qual : Str) (scope : Scope) (f : Addr) (cd : Value) (A : Around) (outer : List Env) (s : Shared) (H : Hp) : Cx :=
  { cxOf CX0 P w K mg base N qual scope f cd A outer s H (fun _ _ _ => False) with calm := false, xe := fun _ _ => False }
theorem Fun.okH {P : Program} {w : World} {K : PySem.W.Frag} {mg : Str → Option Value} {base : Heap} {x qual : Str} {st : Stmt} {f : Addr} {fd : FuncData} {N ps : List Str} {k : Nat} {sp : SpH} (F : Fun K x qual st f fd) (S : FnScope N ps (defScope st)) (len : ∀ hx vs H Q, sp hx vs H Q → vs.length = ps.length)
    (hbody : ∀ (hx : Addr) (cdv : Value) (A : Around) (outer : List Env) (s : Shared) (H : Hp) (vs : List V) (Q : VK), A.handled = some (.ref hx) → sp hx vs H Q →
      ∃ t, PSs (cxH P w K mg base N qual (defScope st) f cdv A outer s H) (defBody st) t ∧ t { nx := fun _ H' => Q .non H', rt := Q } (start N vs) H) : FnOkH P w K mg base (k + 1) f fd ps sp := by
  obtain ⟨oc, od, kV, doc, pm, an, cdv, ct, osl, rfl, lk, hcd⟩ := F.ex
  refine ⟨len, fun hx A outer s H args us vs Q hr hh e0 hb r hsp => ?_⟩
  have hl := len _ _ _ _ hsp
  have KX : K.In s.heap := e0.mod.kin.keeps fun b o e => (e0.bs b o e).1
  have lim : s.heap.NoLimit := e0.mod.nolimit.keeps fun b o e => (e0.bs b o e).1
  have hkind : ∀ y ∈ ps.zip us, (defScope st).names.lookup y.1 = some .local ∨ ((defScope st).names.lookup y.1 = some .cell ∧ ((cellsFrom (s.heap.objs.size + 1) (defScope st).names []).lookup y.1).isSome = true) := fun ⟨n, v⟩ hy => by
    rcases S.par n (List.of_mem_zip hy).1 with q | q
    · exact .inl q
    · exact .inr ⟨q, PySem.W.cellsFrom_some _ _ _ (.inl q)⟩
  refine codeAny_call_function (by have := hr.dp; omega) (KX _ _ lk) rfl S.co S.gen rfl (PySem.W.codeRec_of KX hcd) (hb _ _ _ _ ?_)
  refine wpAny_newFunctionEnv_cells S.kind hkind fun env he s1 x => ?_
  subst he
  refine ⟨lim.keeps x.toInCall.keep, codeAny_func ?_⟩
  obtain ⟨t, ht, hq⟩ := hbody hx cdv A outer s H vs Q hh hsp
  have I0 : Inv (cxOf CX0 P w K mg base N qual (defScope st) f cdv { A with handled := none } outer s H (fun _ _ _ => False)) [] (start N vs) H s1 :=
    inv_start S rfl ⟨e0.frames, e0.mod, e0.bs, e0.bsz, e0.funs, e0.frf, e0.hok, e0.bare⟩ hl r x
  have I : Inv (cxH P w K mg base N qual (defScope st) f cdv A outer s H) [] (start N vs) H s1 :=
    ⟨⟨I0.ok.mod, I0.ok.kind, I0.ok.glob, I0.ok.blt, I0.ok.above, I0.ok.inj, I0.ok.has, I0.ok.cab, (fun z => by cases z), I0.ok.frames, I0.ok.stk, I0.ok.exf, I0.ok.bs, I0.ok.bsz, I0.ok.noex, I0.ok.exfs, I0.ok.funs, I0.ok.frf⟩,
      I0.os, I0.bare, I0.base, I0.loc, I0.cell, I0.free, I0.freeC, I0.pin, I0.hok, I0.len⟩
  refine wpAny_mono (ht [] s1 (start N vs) H _ I hq) (fun fl s' hs => ?_) fun e s' hs => hs.elim
  cases fl with
  | ret u =>
    obtain ⟨v, σ', H', J, rv, q⟩ := hs
    exact ⟨v, H', J.os, J.bare, J.base, J.hok, rv, q⟩
  | next =>
    obtain ⟨σ', H', J, q⟩ := hs
    exact ⟨V.non, H', J.os, J.bare, J.base, J.hok, rfl, q⟩
  | brk =>
    obtain ⟨_, _, _, q⟩ := hs
    exact q.elim
  | cont =>
    obtain ⟨_, _, _, q⟩ := hs
    exact q.elim
structure CalH (P : Program) (w : World) (K : PySem.W.Frag) (mg : Str → Option Value) (base : Heap) (k : Nat) (x : Str) (ps : List Str) (sp : SpH) : Prop where
  ex : ∃ (f : Addr) (fd : FuncData), FnOkH P w K mg base k f fd ps sp ∧ mg x = some (.ref f) ∧ PySem.W.keepIn K (.ref f) = true ∧ Binds K fd ps []
theorem FunG.okH {P : Program} {w : World} {K : PySem.W.Frag} {mg : Str → Option Value} {base : Heap} {x : Str} {st : Stmt} {N ps : List Str} {k : Nat} {sp : SpH} (G : FunG K mg x st ps) (S : FnScope N ps (defScope st)) (len : ∀ hx vs H Q, sp hx vs H Q → vs.length = ps.length)
    (hbody : ∀ (f hx : Addr) (cdv : Value) (A : Around) (outer : List Env) (s : Shared) (H : Hp) (vs : List V) (Q : VK), A.handled = some (.ref hx) → sp hx vs H Q →
      ∃ t, PSs (cxH P w K mg base N x (defScope st) f cdv A outer s H) (defBody st) t ∧ t { nx := fun _ H' => Q .non H', rt := Q } (start N vs) H) : CalH P w K mg base (k + 1) x ps sp := by
  obtain ⟨f, fd, F, hm, hb⟩ := G.ex
  exact ⟨f, fd, F.okH S len fun hx cdv A outer s H vs Q hh h => hbody f hx cdv A outer s H vs Q hh h, hm, F.kp, hb⟩
noncomputable def tCallH (hx : Addr) (sp : SpH) (t : TA) : TE := fun σ H Q => t σ H fun vs H1 => sp hx vs H1 Q
theorem pe_calH {X : Cx} {hx : Addr} {k : Nat} {x : Str} {ps : List Str} {sp : SpH} {p pos : Pos} {e : Expr} {es : List Expr} {t : TA} (D : CalH X.prog X.w X.K X.mg X.base k x ps sp) (hr : RoomH k X.A) (hh : X.A.handled = some (.ref hx)) (ha : PA X (e :: es) t) (hg : Gl X x := by rfl)
    (hdb : (x == ("__debug__" : Str)) = false := by decide) (he : starEach (e :: es) X.env = (false, eval e X.env) :: starEach es X.env := by rfl) (hpl : (backTo pos (starEach es X.env)).any (·.1) = false := by rfl) :
    PE X (.Call (.Name x p) (e :: es) [] pos) (tCallH hx sp t) := by
  obtain ⟨f, fd, F, hm, hk, hb⟩ := D.ex
  intro pins s σ H Q I h
  refine wpAny_Call_Name_kw (ld_glob I hg hm ?_ hdb)
  refine PySem.W.callWith_K (h₀ := X.base) I.ok.mod.kin hk (thn (ha pos pins s σ H _ I h) fun us s1 hz43 => ?_) he hpl
  obtain ⟨vs, H1, I1, r, q⟩ := hz43
  refine ⟨I1.kIn, ?_⟩
  have hl : us.length = ps.length := by rw [← r.length]; exact F.len _ _ _ _ q
  have hb' := hb s1 us I1.kIn (by simpa using hl)
  rw [List.append_nil] at hb'
  refine wpAny_call (codeAny_mono (F.run hx X.A X.stack s1 H1 ⟨us, []⟩ us vs Q hr hh I1.env0 hb' r q) fun r s' hq => ?_)
  cases r with
  | error e => exact hq.elim
  | ok fl =>
    cases fl with
    | ret u => exact I1.after hq
    | next => exact hq.elim
    | brk => exact hq.elim
    | cont => exact hq.elim
/-- a call that is promised to leave no exception -/
theorem passes_no {P : Program} {w : World} {X : Cx} : Passes (CXE P w) X (fun _ _ _ => False) := by
  rintro pins σ H s e s' I ⟨a, C, B, H', rfl, os, bare, u, hok, F, cov, cov2, cov3, hE⟩
  exact hE.elim
theorem ps_setLC1H {ax : Addr} {X : Cx} {N : List Str} {sc : Scope} {x y : Str} {ix : List Nat} {scope : Scope} {elt iter : Expr} {ifs : List Expr} {px cpos pos pos' : Pos} {wi : TI} {tt : TT} {te : TE} {i : Nat}
    (hc : X.A.handled = some (.ref ax)) (hN' : X.N.Nodup) (hin : X.N[i]? = some y) (hx : Loc X.env.scope y)
    (hS : CompS N sc [x] ix scope) (hi : PIH ax X (.Name x px) iter wi)
    (ht : ∀ C fp s H, PTs (cxC X [x] ix scope C fp s H) ifs tt) (he : ∀ C fp s H, PE (cxC X [x] ix scope C fp s H) elt te)
    (hN : X.N = N := by rfl) (hsc : X.env.scope = sc := by rfl)
    (hsw : swapsWith (.ListComp elt [⟨.Name x px, iter, ifs, 0⟩] scope cpos) (some (.Name y pos')) pos.line X.env = pure true := by rfl)
    (hf : X.fn y = true ∨ X.env.scope.names.lookup y = some .local := by first | exact .inl rfl | exact .inr rfl | assumption)
    (hs : ∀ x, foldedSetIterable iter X.env x = pure x := by intro _; rfl) :
    PS X (.Assign [.Name y pos'] (.ListComp elt [⟨.Name x px, iter, ifs, 0⟩] scope cpos) pos) (tAsg (tLC [x] ix wi (gName 0) tt te) (gName i)) := by
  have S := hS.at (X := X) hN hsc
  have hl : ∀ C fp s H, (cxC X [x] ix scope C fp s H).env.scope.names.lookup x = some .local := fun _ _ _ _ => lookup_relabel_local (S.own x (by simp))
  exact ps_setLCH hN' hin hx S hc hi (fun C fp s H => pg_name S.nd rfl (Or.inl (hl C fp s H)) (.inr (hl C fp s H))) ht he hsw hf hs
theorem lc_rangeH {hx : Addr} {xs : List Str} {ix : List Nat} {g : TG} {tt : TT} {te : TE} {lo : Int} {n : Nat} {σ : St} {H1 : Hp} {Q : VK} {acc : Addr} (hn : n < sizeLine) (Pv : Nat → List V → St → Hp → Prop)
    (h0 : Pv 0 [] (stC xs ix σ) (upd H1 acc (.lst [])))
    (hacc : ∀ i ys τ H, Pv i ys τ H → H acc = some (.lst ys) ∧ ys.length ≤ i)
    (hs : ∀ i ys τ H, i < n → Pv i ys τ H → g (.int (lo + i)) τ H fun τ2 H2 => tt τ2 H2 fun b H3 =>
      if b = true then te τ2 H3 fun y H4 => H4 acc = some (.lst ys) ∧ Pv (i + 1) (ys ++ [y]) τ2 (upd H4 acc (.lst (ys ++ [y]))) else Pv (i + 1) ys τ2 H3)
    (he : ∀ ys τ H, Pv n ys τ H → ∃ C, H hx = some (excO C hx))
    (hd : ∀ ys τ H, Pv n ys τ H → Q (.ref acc) H) : LCW (ItrH hx lo n) xs ix g tt te σ H1 acc Q :=
  lc_by hn (fun i => .int (lo + i)) Pv h0 hacc (fun i _ _ _ h _ => h) (fun i _ _ _ _ _ _ _ h => h) (fun ys τ H p => ⟨Nat.le_refl n, he ys τ H p⟩) hs hd
end L2

set_option Elab.async false
set_option linter.all false
set_option maxRecDepth 100000
set_option maxHeartbeats 4000000
namespace L2
open PySem PySem.Spec PyProof.Rows
/-! ### long displays of constants: rules with no premise that is found by computing (that would be exponential) -/
section
variable {X : Cx} {es es1 : List Expr} {t t1 : TA}
theorem swL {es : List Expr} {p : Pos} {t : Option Expr} {n : Nat} {env : Env} : swapsWith (.List es p) t n env = pure false := rfl
/-- e is the constant v -/
inductive CV : Expr → V → Prop
  | str {z : Str} {j p} : CV (.Constant (.str z) j p) (.str z)
  | int {z : Int} {j p} : CV (.Constant (.int z) j p) (.int z)
  | bl {z : Bool} {j p} : CV (.Constant (.bool z) j p) (.bl z)
  | non {j p} : CV (.Constant .none j p) .non
inductive CVs : List Expr → List V → Prop
  | nil : CVs [] []
  | cons {e : Expr} {v : V} {es : List Expr} {vs : List V} (h : CV e v) (t : CVs es vs) : CVs (e :: es) (v :: vs)
/-- a run of constants at once, then the rest -/
noncomputable def tRun (vs : List V) (t : TA) : TA := fun σ H Q => t σ H (fun xs H1 => Q (vs ++ xs) H1)
theorem pa_run0 (h : PA X es t) {cs : List Expr} {vs : List V} (h0 : CVs cs vs) : PA X (cs ++ es) (tRun vs t) := by
  induction h0 with
  | nil => exact h
  | cons c _ ih =>
    cases c with
    | str => exact pa_cons pe_str ih
    | int => exact pa_cons pe_int ih
    | bl => exact pa_cons pe_bl ih
    | non => exact pa_cons pe_non ih
theorem pa_run (n : Nat) {vs : List V} (h0 : CVs (es.take n) vs) (h : PA X (es.drop n) t) : PA X es (tRun vs t) := by
  have z := pa_run0 h h0
  rwa [List.take_append_drop] at z
theorem ps_setL {i : Nat} {x : Str} {pos pos' lp : Pos} (hN : X.N.Nodup) (hi : X.N[i]? = some x) (hx : Loc X.env.scope x) (hf : X.fn x = true ∨ X.env.scope.names.lookup x = some .local) (h : PA X es t) :
    PS X (.Assign [.Name x pos'] (.List es lp) pos) (tAsg (tLst t) (gName i)) := ps_set hN hi hx (pe_lst h) swL hf
noncomputable def tAll (vs : List V) : TA := fun _ H Q => Q vs H
theorem pa_all {vs : List V} (h : CVs es vs) : PA X es (tAll vs) := by
  have z := pa_run0 (X := X) pa_nil h
  have e : tRun vs tNil = tAll vs := by
    funext σ H Q
    show Q (vs ++ []) H = Q vs H
    rw [List.append_nil]
  rwa [List.append_nil, e] at z
end
/-! ### C('text'), an exception that is made and not raised -/
noncomputable def tExc (C : Addr) : TE := fun _ H Q => ∀ a, H a = none → Q (.ref a) (upd H a (excO C a))
theorem pe_exc {X : Cx} {x z : Str} {C : Addr} {j np cp cpos} (c : ExcC X.K X.mg x C) (hg : Gl X x) (hd : (x == ("__debug__" : Str)) = false) : PE X (.Call (.Name x np) [.Constant (.str z) j cp] [] cpos) (tExc C) := by
  intro pins s σ H Q I h
  obtain ⟨bm, N, nm, qn, bs, hdct, sn, sub, ab, col, dd, k0, k1, k2, k3, k5, mN, hC, hN, hni, T⟩ := exc_obj I.ok.mod.kin c.ok
  refine wpAny_Call_ofName (ld_glob I hg c.at_ ?_ hd)
  unfold callWith
  refine wpAny_bind (wpAny_holding (Calls.evalArgs_plain (thn ((pa_cons pe_str pa_nil) cpos pins s σ H (fun vs H1 => vs = [.str z] ∧ H1 = H) I ⟨rfl, rfl⟩) fun us s1 hz44 => ?_)))
  obtain ⟨vs, H1, I1, r, e1, e2⟩ := hz44
  refine wpAny_bind (wpAny_standAt ?_)
  subst e1 e2
  obtain ⟨u, rfl, _⟩ := r.one
  obtain ⟨hp, g, d, tk, os⟩ := s1
  have hC1 := I1.bk _ _ hC
  refine wpAny_bind (wpAny_keeperOf_exc hC1 ?_)
  refine wpAny_bind (wpAny_call_exc_subT (hrest := by show 1 ≤ sizeLine; decide) PySem.F.excBase_ValueError (T.keeps I1.bk) hC1 (hN.keeps I1.bk) hni fun h' e hm => wpAny_bind (wpAny_holding (wpAny_point (wpAny_pure ?_))))
  obtain ⟨t, ht, _, _⟩ := hm.there
  have he : H1 e = none := by
    cases q : H1 e with
    | none => rfl
    | some o =>
      obtain ⟨v, hv⟩ := (I1.hok e o q).there
      have hv' : hp.get? e = some v := hv
      rw [hm.new] at hv'; cases hv'
  have old : ∀ b o, hp.get? b = some o → b ≠ e := fun b o q z => by rw [z, hm.new] at q; cases q
  have ne : ∀ b o, H1 b = some o → b ≠ e := fun b o q z => by rw [z, he] at q; cases q
  have u : Un (frs X.stack) [] H1 (upd H1 e (excO C e)) hp h' :=
    ⟨fun b o q _ _ _ => hm.keeps b o q, fun b o q _ _ _ => ⟨o.slots, hm.keeps b o q⟩, fun b o q n _ => by rw [upd_ne (old b o q)]; exact n, fun b o q _ => ⟨o, hm.keeps b o q⟩,
      fun b xs q => by rw [upd_ne (ne b _ q)]; exact q, fun b o v q => by rw [upd_ne (ne b _ q)]; exact q, fun b ps q => ⟨#[], by rw [upd_ne (ne b _ q), Array.append_empty]; exact q⟩⟩
  refine ⟨.ref e, _, I1.call' (s' := ⟨h', g, d, tk, os⟩) (ch := []) rfl u (fun b o q => ?_) I1.bare (fun b hb => absurd hb List.not_mem_nil), rfl, h e he⟩
  by_cases hb : b = e
  · subst hb
    rw [upd_same] at q
    cases q
    exact ⟨⟨_, _, ht, ⟨rfl, rfl⟩, rfl, rfl⟩, ⟨_, ht⟩, fun h1 h2 ⟨o1, c1, r1, r2, r3, r4⟩ k => ⟨o1, c1, k o1 r1, r2, r3, r4⟩⟩
  · rw [upd_ne hb] at q
    have z := I1.hok b o q
    exact z.stay (fun c v _ z => hm.keeps c v z) (fun c z => by rw [upd_ne (ne c _ z)]; exact z) fun c xs z => by rw [upd_ne (ne c _ z)]; exact z
end L2

set_option Elab.async false
set_option linter.all false
set_option maxRecDepth 100000
set_option maxHeartbeats 4000000
namespace L2
open PySem PySem.Spec PyProof.Rows
section
variable {X : Cx}
/-- != of two lists that are alike -/
noncomputable def rNeS : R2 := fun x y H Q => ∃ a b xs, x = .ref a ∧ y = .ref b ∧ H a = some (.lst xs) ∧ H b = some (.lst xs) ∧ xs.all flatV = true ∧ Q (.bl false) H
theorem op_neS (hu : X.A.units < cLine) : OpR X (compareOp .NotEq) rNeS := by
  intro pins s σ H x y v u Q I rx ry h
  obtain ⟨a, b, xs, rfl, rfl, ha, hb, f, q⟩ := h
  cases rx; cases ry
  obtain ⟨i1, r1, p1, _⟩ := I.list (.of ha)
  obtain ⟨i2, r2, p2, _⟩ := I.list (.of hb)
  have l1 := r1.length
  have l2 := r2.length
  have key := SeqAt.RcNeAt.lists (A := X.A) (e := fun j => eqV (xs.getD j .non) (xs.getD j .non)) p1.isList p2.isList (by rw [List.size_toArray, List.size_toArray, ← l1, ← l2]) hu
    (fun j g1 g2 => eqAt_items (pins := pins) (σ := σ) (H := H) r1 r2 f f j g1 g2)
  have ee : (List.range i1.toArray.size).all (fun j => eqV (xs.getD j .non) (xs.getD j .non)) = true := by
    rw [List.all_eq_true]
    intro j hj
    have hl : j < xs.length := by have := List.mem_range.mp hj; rw [List.size_toArray, ← l1] at this; exact this
    rw [List.getD_eq_getElem?_getD, List.getElem?_eq_getElem hl]
    exact eqV_refl (List.all_eq_true.mp f _ (List.getElem_mem hl))
  rw [ee] at key
  exact key _ _ _ _ ⟨.bl false, H, I, rfl, q⟩
end
end L2

set_option Elab.async false
set_option linter.all false
set_option maxRecDepth 100000
set_option maxHeartbeats 4000000
namespace L2
open PySem PySem.Spec PyProof.Rows PySem.Builtin.Str
/-! ### text * number, and how long a slice is -/
theorem ix_same (n : Int) (L : Nat) (h : 0 ≤ n) : strSliceIndices none (some n) 1 L = strSliceIndices (some ((0 : Nat) : Int)) (some ((min n.toNat L : Nat) : Int)) 1 L := by
  obtain ⟨m, rfl⟩ := Int.eq_ofNat_of_zero_le h
  have n0 : ∀ k : Nat, ¬ ((k : Nat) : Int) < 0 := fun k => Int.not_lt.mpr (Int.natCast_nonneg k)
  have l0 : ∀ k : Nat, max (0 : Int) (k : Int) = (k : Int) := fun k => Int.max_eq_right (Int.natCast_nonneg k)
  have cm : ∀ x y : Nat, min (x : Int) (y : Int) = ((min x y : Nat) : Int) := fun x y => by
    rcases Nat.le_total x y with h | h
    · rw [Nat.min_eq_left h, Int.min_eq_left (Int.ofNat_le.mpr h)]
    · rw [Nat.min_eq_right h, Int.min_eq_right (Int.ofNat_le.mpr h)]
  unfold strSliceIndices
  dsimp only
  rw [Int.toNat_natCast, if_neg (n0 m), if_neg (n0 0), if_neg (n0 (min m L)), if_pos (by decide), if_pos (by decide), if_pos (by decide), cm, cm, cm, l0, l0, l0, Nat.zero_min, Nat.min_assoc, Nat.min_self]
  rfl
theorem slice_len (x : Str) (n : Int) (h : 0 ≤ n) : (Txt.slice x none (some n)).length = min n.toNat x.length := by
  have e := ix_same n x.length h
  have p := PySem.StrLaws.sliced_plain x (a := 0) (b := min n.toNat x.length) (Nat.zero_le _) (Nat.min_le_right _ _)
  unfold Txt.slice
  rw [e]
  split
  · rename_i q
    rw [PySem.StrLaws.strSliceIndices_plain (Nat.zero_le _) (Nat.min_le_right _ _)] at q
    simp at q
    omega
  · show (List.toArray _).size = _
    rw [p]
    simp [Str.length]
noncomputable def repS (x : Str) (n : Int) : Str := ⟨(List.replicate n.toNat x.cps).foldl (· ++ ·) #[]⟩
theorem rep_len (a : Array Nat) : ∀ (n : Nat) (acc : Array Nat), ((List.replicate n a).foldl (· ++ ·) acc).size = acc.size + n * a.size
  | 0, acc => by simp
  | n + 1, acc => by
    rw [List.replicate_succ, List.foldl_cons, rep_len a n]
    rw [Array.size_append, Nat.succ_mul]
    omega
theorem repS_len (x : Str) (n : Int) : (repS x n).length = n.toNat * x.length := by
  show ((List.replicate n.toNat x.cps).foldl (· ++ ·) #[]).size = _
  rw [rep_len]
  simp [Str.length]
/-- text * number above one, of a text that is not empty -/
noncomputable def rMulS : R2 := fun x y H Q => ∃ z n, x = .str z ∧ y = .int n ∧ 1 < n ∧ 1 ≤ z.length ∧ z.length * n.toNat ≤ 100000 ∧ Q (.str (repS z n)) H
theorem op_mulS {X : Cx} : OpR X (binaryOp .Mult) rMulS := by
  intro pins s σ H x y v u Q I rx ry h
  obtain ⟨z, n, rfl, rfl, hn, hz, hl, q⟩ := h
  obtain ⟨t, rfl⟩ := rx
  obtain ⟨t', rfl⟩ := ry
  have hm : n.toNat ≤ 100000 := Nat.le_trans (Nat.le_mul_of_pos_left _ hz) hl
  have hz2 : z.length ≤ 100000 := Nat.le_trans (Nat.le_mul_of_pos_right _ (by omega)) hl
  refine P.mul_str ?_ (fun _ _ => ?_) (fun _ _ => ?_) ?_
  · simp; omega
  · have : (z.length : Int) ≤ 100000 := by omega
    have h2 : (100000 : Int) ≤ (2 ^ 63 - 1) / n := by
      rw [Int.le_ediv_iff_mul_le (by omega)]
      have : n ≤ 100000 := by omega
      omega
    omega
  · unfold tooLong
    simp only [decide_eq_false_iff_not]
    rw [sizeLine_eq]
    omega
  · rw [if_neg (by omega), if_neg (by simp; omega)]
    refine ⟨?_, .str (repS z n), H, I.tok _, ⟨_, rfl⟩, q⟩
    show (repS z n).length ≤ sizeLine
    rw [repS_len, sizeLine_eq, Nat.mul_comm]
    omega
end L2

set_option Elab.async false
set_option linter.all false
set_option maxRecDepth 100000
namespace L2
open PySem PySem.W
/-- what the refusals' classes are to one another -/
noncomputable def excTab (K : Frag) (cs : List Addr) (cT : Addr) : Bool := (List.range 12).all fun i =>
  ((List.range 12).all fun j => kitOne K (.ref (cs.getD i 0)) (.ref (cs.getD j 0)) == some (decide (i = j))) && (kitOne K (.ref (cs.getD i 0)) (.type "ValueError") == some true) && (kitOne K (.ref (cs.getD i 0)) (.ref cT) == some true) &&
    (exmOne K (.ref (cs.getD i 0)) (.ref cT) == some true) && (i == 10 || excIn K (cs.getD i 0) bmVE "ValueError.__new__")
/-- what is asked of each class of refusals alone -/
noncomputable def excOwn (K : Frag) (c : Addr) : Bool := (findIn K (.ref c) "__getattribute__" == some (some (.builtin "BaseException.__getattribute__"))) && (findIn K (.ref c) "__getattr__" == some none) && (findIn K (.ref c) "__class__" == some (some (.builtin "object.__class__"))) &&
  (mroIn K c (.type "object") == some true) && hasDictIn K c && (subIn K (.ref c) (.type "BaseException") == some true)
noncomputable def excAll (K : Frag) (cs : List Addr) : Bool := (specialIn K (.builtin "object.__class__") "__get__" == some (some (.builtin "getset_descriptor.__get__"))) && (takesIn K (.builtin "object.__class__") == some true) && (List.range 12).all fun i => excOwn K (cs.getD i 0)
section
variable {K : Frag} {cs : List Addr} {cT : Addr}
theorem tab_at (h : excTab K cs cT = true) {i : Nat} (hi : i < 12) : ((((∀ j, j < 12 → kitOne K (.ref (cs.getD i 0)) (.ref (cs.getD j 0)) = some (decide (i = j))) ∧ kitOne K (.ref (cs.getD i 0)) (.type "ValueError") = some true) ∧ kitOne K (.ref (cs.getD i 0)) (.ref cT) = some true) ∧
    exmOne K (.ref (cs.getD i 0)) (.ref cT) = some true) ∧ (i = 10 ∨ excIn K (cs.getD i 0) bmVE "ValueError.__new__" = true) := by
  have q := List.all_eq_true.mp h i (List.mem_range.mpr hi)
  simp only [Bool.and_eq_true, Bool.or_eq_true, beq_iff_eq] at q
  refine ⟨⟨⟨⟨fun j hj => ?_, q.1.1.1.2⟩, q.1.1.2⟩, q.1.2⟩, q.2⟩
  exact beq_iff_eq.mp (List.all_eq_true.mp q.1.1.1.1 j (List.mem_range.mpr hj))
theorem tab_kd (h : excTab K cs cT = true) {i j : Nat} (hi : i < 12) (hj : j < 12) : kitOne K (.ref (cs.getD i 0)) (.ref (cs.getD j 0)) = some (decide (i = j)) := (tab_at h hi).1.1.1.1 j hj
theorem tab_kv (h : excTab K cs cT = true) {i : Nat} (hi : i < 12) : kitOne K (.ref (cs.getD i 0)) (.type "ValueError") = some true := (tab_at h hi).1.1.1.2
theorem tab_kT (h : excTab K cs cT = true) {i : Nat} (hi : i < 12) : kitOne K (.ref (cs.getD i 0)) (.ref cT) = some true := (tab_at h hi).1.1.2
theorem tab_ex (h : excTab K cs cT = true) {i : Nat} (hi : i < 12) : exmOne K (.ref (cs.getD i 0)) (.ref cT) = some true := (tab_at h hi).1.2
theorem tab_ok (h : excTab K cs cT = true) {i : Nat} (hi : i < 12) (n : i ≠ 10) : excIn K (cs.getD i 0) bmVE "ValueError.__new__" = true := (tab_at h hi).2.resolve_left n
theorem all_ek (h : excAll K cs = true) {i : Nat} (hi : i < 12) : ExcK K (cs.getD i 0) := by
  unfold excAll at h
  simp only [Bool.and_eq_true, beq_iff_eq] at h
  have q := List.all_eq_true.mp h.2 i (List.mem_range.mpr hi)
  unfold excOwn at q
  simp only [Bool.and_eq_true, beq_iff_eq] at q
  exact ⟨q.1.1.1.1.1, q.1.1.1.1.2, q.1.1.1.2, h.1.1, h.1.2, q.1.1.2, q.1.2, q.2⟩
end
end L2

set_option Elab.async false
set_option linter.all false
set_option maxRecDepth 100000
set_option maxHeartbeats 4000000
namespace K11
open PySem L2
noncomputable def top (i : Nat) : Stmt := PySem.Challenge.pw_treeright_k11_seats_made.main.body.getD i (.Pass ⟨0, 0, 0, 0⟩)
noncomputable abbrev sName : Stmt := top 18
noncomputable abbrev sInit : Stmt := inClass (top 21) 0
noncomputable abbrev sArrow : Stmt := inClass (top 21) 1
noncomputable abbrev sRow : Stmt := inClass (top 21) 2
noncomputable abbrev sInside : Stmt := inClass (top 21) 3
noncomputable abbrev sHas : Stmt := inClass (top 21) 4
noncomputable abbrev sWant : Stmt := inClass (top 21) 10
noncomputable abbrev sLeave : Stmt := inClass (top 21) 11
noncomputable abbrev sDone : Stmt := inClass (top 21) 12
noncomputable abbrev sMove : Stmt := inClass (top 21) 15
noncomputable abbrev sServe : Stmt := inClass (top 21) 16
/-! ### a seat's fields -/
noncomputable def flds (a : V) (wl : Addr) (h : V) (k : Bool) : List (Str × V) := [("pointer", a), ("waiting", .ref wl), ("holder", h), ("asked", .bl k)]
theorem n1 : ¬ (("pointer" : Str) = "holder") := by decide +kernel
theorem n2 : ¬ (("waiting" : Str) = "holder") := by decide +kernel
theorem n3 : ¬ (("pointer" : Str) = "asked") := by decide +kernel
theorem n4 : ¬ (("waiting" : Str) = "asked") := by decide +kernel
theorem n5 : ¬ (("holder" : Str) = "asked") := by decide +kernel
theorem n6 : ¬ (("pointer" : Str) = "waiting") := by decide +kernel
theorem fl_p (a : V) (wl : Addr) (h : V) (k : Bool) : (flds a wl h k).lookup ("pointer" : Str) = some a := rfl
theorem fl_w (a : V) (wl : Addr) (h : V) (k : Bool) : (flds a wl h k).lookup ("waiting" : Str) = some (.ref wl) := rfl
theorem fl_h (a : V) (wl : Addr) (h : V) (k : Bool) : (flds a wl h k).lookup ("holder" : Str) = some h := rfl
theorem fl_k (a : V) (wl : Addr) (h : V) (k : Bool) : (flds a wl h k).lookup ("asked" : Str) = some (.bl k) := rfl
noncomputable def optV : Option Str → V
  | none => .non
  | some z => .str z
structure SeatT (K : PySem.W.Frag) (C : Addr) : Prop where
  cl : Cls K C
  nP : NoAttr K C "pointer"
  nW : NoAttr K C "waiting"
  nH : NoAttr K C "holder"
  nA : NoAttr K C "asked"
/-- what a seat knows -/
structure SS where
  ptr : Option Str
  row : List (Str × Str)
  hold : Option Str
  asked : Bool
noncomputable def rowV (r : Str × Str) : List V := [.str r.1, .str r.2]
structure SeatAt (C : Addr) (H : Hp) (p wl : Addr) (s : SS) : Prop where
  ob : ∃ dx, H p = some (.ins C dx (flds (optV s.ptr) wl (optV s.hold) s.asked))
  rw : Rows H wl (s.row.map rowV)
  len : s.row.length ≤ 1000
theorem SeatAt.keep {C : Addr} {H H' : Hp} {p wl : Addr} {s : SS} (S : SeatAt C H p wl s) (k : Keep [] H H') : SeatAt C H' p wl s := by
  obtain ⟨⟨dx, h⟩, r, l⟩ := S
  exact ⟨⟨dx, k _ _ (by simp) h⟩, r.keep k, l⟩
/-- the first one of the row -/
noncomputable def serveF (s : SS) : SS × List V := match s.row with
  | [] => (s, [])
  | (k, n) :: rest => if k = "asker" then ({ s with row := rest, hold := some n }, [.str "given", .str n])
    else ({ s with ptr := some n, row := rest, asked := !rest.isEmpty }, [.str "right", .str n, .bl (!rest.isEmpty)])
noncomputable def moveF (s : SS) : SS × List (List V) :=
  if s.row.isEmpty then (s, []) else
  match s.ptr with
  | none => match s.hold with
    | none => ((serveF s).1, [(serveF s).2])
    | some _ => (s, [])
  | some q => if s.asked then (s, []) else ({ s with asked := true }, [[.str "ask", .str q]])
theorem paired_keep {S : List Addr} {H H' : Hp} (k : Keep S H H') (n : ∀ b ∈ S, ∀ xs, H b ≠ some (.tup xs)) {ps : List Addr} {rows : List (List V)} (h : Paired (fun q r => H q = some (.tup r)) ps rows) : Paired (fun q r => H' q = some (.tup r)) ps rows := by
  induction h with
  | nil => exact .nil
  | cons e _ ih => exact .cons (k _ _ (fun z => n _ z _ e) e) ih
section
variable {P : Program} {w : World} {K : PySem.W.Frag} {mg : Str → Option Value} {base : Heap} {C : Addr}
theorem fl_no (a : V) (wl : Addr) (h : V) (k : Bool) {m : Str} (h1 : ¬ m = "pointer") (h2 : ¬ m = "waiting") (h3 : ¬ m = "holder") (h4 : ¬ m = "asked") : (flds a wl h k).lookup m = none := by
  have e1 : (m == ("pointer" : Str)) = false := by simpa using h1
  have e2 : (m == ("waiting" : Str)) = false := by simpa using h2
  have e3 : (m == ("holder" : Str)) = false := by simpa using h3
  have e4 : (m == ("asked" : Str)) = false := by simpa using h4
  unfold flds
  simp only [List.lookup_cons, e1, e2, e3, e4, List.lookup_nil]
noncomputable def spName (K : PySem.W.Frag) : Sp := fun vs H Q _ => ∃ (x : V) (T : String), vs = [x] ∧ PlainT K H x T ∧ (∀ z, x = .str z → z.length ≤ 1000) ∧ ∀ H', Keep [] H H' → Q (.bl (nameV x)) H'
theorem scName : FnScope ["thing"] ["thing"] (defScope sName) := ⟨rfl, rfl, rfl, by decide +kernel, rfl, by decide +kernel, by decide +kernel⟩
theorem okName (G : FunG K mg "is_name" sName ["thing"]) (bI : Blt mg "isinstance") (bS : Blt mg "str") (bL : Blt mg "len") (bA : Blt mg "all") (gL : Glo mg "LETTERS" (.str abc)) (g8 : Glo mg "LONGEST_NAME" (.int 8)) :
    Cal P w K mg base CX0 1 "is_name" ["thing"] (spName K) := by
  refine G.ok scName (fun vs H Q E h => by obtain ⟨x, T, rfl, _⟩ := h; rfl) (fun f cdv A outer s H vs Q E hr h => ?_)
  obtain ⟨x, T, rfl, pt, hz, q⟩ := h
  refine ⟨_, pss_cons (ps_if (pt_not (pt_val (pe_blt call_isinst bI bo_isinstance (pa_cons (pv 0) (pa_cons (pe_ty bS bo_str) pa_nil))))) (pss_one (ps_ret pe_bl)) pss_nil)
    (pss_one (ps_ret (pe_and (pe_chain op_le op_le pe_int (pe_blt call_len bL bo_len (pa_cons (pv 0) pa_nil)) (pe_glo g8))
      (pe_one (pe_blt (call_all rfl) bA bo_all (pa_cons (pe_lc1 (N := ["thing"]) (sc := defScope sName) (ix := []) (by decide +kernel) (pi_str (pv 0)) (fun _ _ _ _ => pts_nil)
        (fun C fp s H => pe_cmpR op_in_str (pv 0) (pe_glo gL) (by with_unfolding_all rfl))) pa_nil)))))), ?_⟩
  refine ⟨_, rfl, _, _, _, _, rfl, pt.ty, pt.kit.1, _, rfl, ?_⟩
  cases pt with
  | str z =>
    have hz := hz z rfl
    refine iteF ?_
    refine ⟨_, rfl, _, z.length, rfl, ⟨by rw [sizeLine_eq]; omega, rfl⟩, _, _, rfl, rfl, _, rfl, ?_⟩
    refine ite2 (fun h1 => ?_) (fun h1 => ?_)
    · refine ⟨_, _, rfl, rfl, _, rfl, ?_⟩
      refine ite2 (fun h2 => ?_) (fun h2 => ?_)
      · refine ⟨_, rfl, z, rfl, fun acc ha => ?_⟩
        refine lc_str0 (by rw [sizeLine_eq]; show z.length < _; omega) (fun i ys τ H2 => ∃ (k : Option V), τ = [k] ∧ ys = (z.cps.toList.take i).map (fun c => V.bl (letterB c)) ∧ i ≤ z.cps.size ∧ Keep [acc] H H2 ∧ H2 acc = some (.lst ys)) ?_ ?_ ?_ ?_
        · exact ⟨_, rfl, rfl, Nat.zero_le _, Keep.at (by simp), upd_same⟩
        · rintro i ys τ H2 ⟨k, rfl, rfl, hi, kp, h3⟩
          exact ⟨h3, by simp; omega⟩
        · rintro i ys τ H2 hi ⟨k, rfl, rfl, _, kp, h3⟩
          refine ⟨_, rfl, _, _, rfl, rfl, h3, _, rfl, ?_, hi, kp.trans (Keep.at (by simp)), upd_same⟩
          rw [List.take_add_one, List.map_append]
          congr 1
          have e : z.cps.toList[i]? = some (z.cps.getD i 0) := by
            rw [Array.getElem?_toList, Array.getD_eq_getD_getElem?, Array.getElem?_eq_getElem hi]; rfl
          rw [e]; rfl
        · rintro ys τ H2 ⟨k, rfl, rfl, _, kp, h3⟩
          refine ⟨acc, z.cps.toList.map letterB, rfl, .of ?_, ?_⟩
          · rw [h3, List.take_of_length_le (by simp), List.map_map]; rfl
          · rw [all_map_id]
            have e : nameV (.str z) = z.cps.toList.all letterB := by
              show (decide (1 ≤ z.length) && decide (z.length ≤ 8) && _) = _
              have e1 : 1 ≤ z.length := by have := of_decide_eq_true h1; omega
              have e2 : z.length ≤ 8 := by have := of_decide_eq_true h2; omega
              rw [decide_eq_true e1, decide_eq_true e2]; rfl
            rw [← e]
            exact q _ (kp.drop ha)
      · have e : nameV (.str z) = false := by
          show (decide (1 ≤ z.length) && decide (z.length ≤ 8) && _) = _
          have e2 : ¬ z.length ≤ 8 := fun z' => h2 (decide_eq_true (by omega))
          rw [decide_eq_false e2]; simp
        rw [← e]
        exact q _ (Keep.refl _)
    · refine ⟨_, rfl, iteF ?_⟩
      have e : nameV (.str z) = false := by
        show (decide (1 ≤ z.length) && decide (z.length ≤ 8) && _) = _
        have e2 : ¬ 1 ≤ z.length := fun z' => h1 (decide_eq_true (by omega))
        rw [decide_eq_false e2]; simp
      rw [← e]
      exact q _ (Keep.refl _)
  | _ => exact iteT (q H (Keep.refl _))
theorem scArrow : FnScope ["self"] ["self"] (defScope sArrow) := ⟨rfl, rfl, rfl, by decide +kernel, rfl, by decide +kernel, by decide +kernel⟩

noncomputable def spArrow (C : Addr) : Sp := fun vs H Q _ => ∃ (p wl : Addr) (s : SS), vs = [.ref p] ∧ SeatAt C H p wl s ∧ Q (optV s.ptr) H
theorem okArrow (T : SeatT K C) (G : MthG K C "arrow" "Seat.arrow" sArrow ["self"]) : MCal P w K mg base CX0 1 C "arrow" ["self"] (spArrow C) := by
  refine G.ok scArrow (fun vs H Q E h => by obtain ⟨p, wl, s, rfl, _⟩ := h; rfl) (fun f cdv A outer s0 H vs Q E hr h => ?_)
  obtain ⟨p, wl, s, rfl, S, q⟩ := h
  obtain ⟨dx, hob⟩ := S.ob
  exact ⟨_, (pss_one (ps_ret (pe_fld (pv 0) rfl))), _, rfl, p, C, dx, _, _, rfl, hob, T.cl, T.nP, fl_p _ _ _ _, q⟩
theorem scInside : FnScope ["self"] ["self"] (defScope sInside) := ⟨rfl, rfl, rfl, by decide +kernel, rfl, by decide +kernel, by decide +kernel⟩

noncomputable def spInside (C : Addr) : Sp := fun vs H Q _ => ∃ (p wl : Addr) (s : SS), vs = [.ref p] ∧ SeatAt C H p wl s ∧ Q (optV s.hold) H
theorem okInside (T : SeatT K C) (G : MthG K C "inside" "Seat.inside" sInside ["self"]) : MCal P w K mg base CX0 1 C "inside" ["self"] (spInside C) := by
  refine G.ok scInside (fun vs H Q E h => by obtain ⟨p, wl, s, rfl, _⟩ := h; rfl) (fun f cdv A outer s0 H vs Q E hr h => ?_)
  obtain ⟨p, wl, s, rfl, S, q⟩ := h
  obtain ⟨dx, hob⟩ := S.ob
  exact ⟨_, (pss_one (ps_ret (pe_fld (pv 0) rfl))), _, rfl, p, C, dx, _, _, rfl, hob, T.cl, T.nH, fl_h _ _ _ _, q⟩
theorem scHas : FnScope ["self"] ["self"] (defScope sHas) := ⟨rfl, rfl, rfl, by decide +kernel, rfl, by decide +kernel, by decide +kernel⟩

noncomputable def spHas (C : Addr) : Sp := fun vs H Q _ => ∃ (p wl : Addr) (s : SS), vs = [.ref p] ∧ SeatAt C H p wl s ∧ Q (.bl s.asked) H
theorem okHas (T : SeatT K C) (G : MthG K C "has_asked" "Seat.has_asked" sHas ["self"]) : MCal P w K mg base CX0 1 C "has_asked" ["self"] (spHas C) := by
  refine G.ok scHas (fun vs H Q E h => by obtain ⟨p, wl, s, rfl, _⟩ := h; rfl) (fun f cdv A outer s0 H vs Q E hr h => ?_)
  obtain ⟨p, wl, s, rfl, S, q⟩ := h
  obtain ⟨dx, hob⟩ := S.ob
  exact ⟨_, (pss_one (ps_ret (pe_fld (pv 0) rfl))), _, rfl, p, C, dx, _, _, rfl, hob, T.cl, T.nA, fl_k _ _ _ _, q⟩
theorem scRow : FnScope ["self"] ["self"] (defScope sRow) := ⟨rfl, rfl, rfl, by decide +kernel, rfl, by decide +kernel, by decide +kernel⟩

noncomputable def spRow (C : Addr) : Sp := fun vs H Q _ => ∃ (p wl : Addr) (s : SS), vs = [.ref p] ∧ SeatAt C H p wl s ∧ ∀ (r : Addr) (H' : Hp), H r = none → Rows H' r (s.row.map rowV) → Keep [] H H' → Q (.ref r) H'
theorem okRow (T : SeatT K C) (G : MthG K C "row" "Seat.row" sRow ["self"]) (bT : Blt mg "list") : MCal P w K mg base CX0 1 C "row" ["self"] (spRow C) := by
  refine G.ok scRow (fun vs H Q E h => by obtain ⟨p, wl, s, rfl, _⟩ := h; rfl) (fun f cdv A outer s0 H vs Q E hr h => ?_)
  obtain ⟨p, wl, s, rfl, S, q⟩ := h
  obtain ⟨⟨dx, hob⟩, ⟨ps, hwl, hpr⟩, hlen⟩ := id S
  refine ⟨_, (pss_one (ps_ret (pe_callTy call_list_of rfl bT.no bo_list (pa_cons (pe_fld (pv 0) rfl) pa_nil)))), _, rfl, p, C, dx, _, _, rfl, hob, T.cl, T.nW, fl_w _ _ _ _, wl, _, rfl, .inl (.of hwl), fun l hl => ?_⟩
  have k1 : Keep [] H (upd H l (.lst (ps.map V.ref))) := Keep.new hl
  exact q l _ hl ⟨ps, upd_same, paired_keep k1 (fun b hb => by cases hb) hpr⟩ k1
theorem scInit : FnScope ["self", "arrow"] ["self", "arrow"] (defScope sInit) := ⟨rfl, rfl, rfl, by decide +kernel, rfl, by decide +kernel, by decide +kernel⟩

theorem put_all (a : V) (wl : Addr) : putF "asked" (.bl false) (putF "holder" .non (putF "waiting" (.ref wl) (putF "pointer" a []))) = flds a wl .non false := by
  unfold flds
  simp only [putF, if_neg n1, if_neg n2, if_neg n3, if_neg n4, if_neg n5, if_neg n6]
end
end K11

set_option Elab.async false
set_option linter.all false
set_option maxRecDepth 100000
set_option maxHeartbeats 4000000
namespace K11
open PySem L2
noncomputable abbrev sAlike : Stmt := top 30
/-- both are the same data, n deep at most -/
noncomputable def Alk (H : Hp) : Nat → V → V → Prop
  | 0, u, v => u = v ∧ flatV u = true
  | n + 1, u, v => (u = v ∧ flatV u = true) ∨ ∃ (a b : Addr) (us vs : List V), u = .ref a ∧ v = .ref b ∧ ((H a = some (.lst us) ∧ H b = some (.lst vs)) ∨ (H a = some (.tup us) ∧ H b = some (.tup vs))) ∧ Paired (Alk H n) us vs ∧ us.length ≤ 2000
theorem Alk.flat {H : Hp} {u : V} (n : Nat) (f : flatV u = true) : Alk H n u u := by
  cases n with
  | zero => exact ⟨rfl, f⟩
  | succ n => exact .inl ⟨rfl, f⟩
theorem Alk.keep {H H' : Hp} (k : Keep [] H H') (n : Nat) : ∀ {u v : V}, Alk H n u v → Alk H' n u v := by
  induction n with
  | zero => exact fun h => h
  | succ n ih =>
    intro u v h
    rcases h with h | ⟨a, b, us, vs, e1, e2, hh, hp, hl⟩
    · exact .inl h
    · exact .inr ⟨a, b, us, vs, e1, e2, hh.elim (fun z => .inl ⟨k _ _ (by simp) z.1, k _ _ (by simp) z.2⟩) (fun z => .inr ⟨k _ _ (by simp) z.1, k _ _ (by simp) z.2⟩), L2.Paired.mapP hp fun x y z => ih z, hl⟩
theorem flat_plain {K : PySem.W.Frag} {H : Hp} {u : V} (f : flatV u = true) : ∃ T, PlainT K H u T ∧ T ≠ "list" ∧ T ≠ "tuple" := by
  cases u with
  | non => exact ⟨_, .non, by decide, by decide⟩
  | bl b => exact ⟨_, .bl b, by decide, by decide⟩
  | int i => exact ⟨_, .int i, by decide, by decide⟩
  | str z => exact ⟨_, .str z, by decide, by decide⟩
  | _ => exact absurd (show false = true from f) Bool.false_ne_true
theorem kitLT {K : PySem.W.Frag} {H : Hp} {x : V} {T : String} (h : PlainT K H x T) : PySem.W.kitAny K (.type T) [.type "list", .type "tuple"] = some (T == "list" || T == "tuple") := by
  cases h <;> rfl
section
variable {P : Program} {w : World} {K : PySem.W.Frag} {mg : Str → Option Value} {base : Heap} {C : Addr}
theorem scAlike : FnScope ["_law_found", "_law_due"] ["_law_found", "_law_due"] (defScope sAlike) := ⟨rfl, rfl, rfl, by decide +kernel, rfl, by decide +kernel, by decide +kernel⟩

noncomputable def spAl : Nat → Sp
  | 0 => fun _ _ _ _ => False
  | n + 1 => fun vs H Q _ => ∃ (u v : V), vs = [u, v] ∧ Alk H n u v ∧ ∀ H', Keep [] H H' → Q (.bl true) H'
theorem len_ref {K : PySem.W.Frag} {H : Hp} {a b : Addr} {us vs : List V} (h : (H a = some (.lst us) ∧ H b = some (.lst vs)) ∨ (H a = some (.tup us) ∧ H b = some (.tup vs))) : LenV K (.ref a) H us.length ∧ LenV K (.ref b) H vs.length := by
  rcases h with ⟨h1, h2⟩ | ⟨h1, h2⟩
  · exact ⟨.inl ⟨_, .of h1, rfl⟩, .inl ⟨_, .of h2, rfl⟩⟩
  · exact ⟨.inr ⟨_, .of h1, rfl⟩, .inr ⟨_, .of h2, rfl⟩⟩
theorem ty_ref {K : PySem.W.Frag} {H : Hp} {a b : Addr} {us vs : List V} (h : (H a = some (.lst us) ∧ H b = some (.lst vs)) ∨ (H a = some (.tup us) ∧ H b = some (.tup vs))) : ∃ T, PlainT K H (.ref a) T ∧ PlainT K H (.ref b) T ∧ (T = "list" ∨ T = "tuple") := by
  rcases h with ⟨h1, h2⟩ | ⟨h1, h2⟩
  · exact ⟨_, .lst h1, .lst h2, .inl rfl⟩
  · exact ⟨_, .tup h1, .tup h2, .inr rfl⟩
theorem ref_keep {H H' : Hp} {a b : Addr} {us vs : List V} (k : Keep [] H H') (h : (H a = some (.lst us) ∧ H b = some (.lst vs)) ∨ (H a = some (.tup us) ∧ H b = some (.tup vs))) : (H' a = some (.lst us) ∧ H' b = some (.lst vs)) ∨ (H' a = some (.tup us) ∧ H' b = some (.tup vs)) :=
  h.elim (fun z => .inl ⟨k _ _ (by simp) z.1, k _ _ (by simp) z.2⟩) (fun z => .inr ⟨k _ _ (by simp) z.1, k _ _ (by simp) z.2⟩)
theorem okAlike (G : FunG K mg "_law_alike" sAlike ["_law_found", "_law_due"]) (b_isinstance : Blt mg "isinstance") (b_list : Blt mg "list") (b_tuple : Blt mg "tuple") (b_bool : Blt mg "bool") (b_len : Blt mg "len") (b_all : Blt mg "all") (b_range : Blt mg "range") :
    ∀ n, Cal P w K mg base CX0 n "_law_alike" ["_law_found", "_law_due"] (spAl n)
  | 0 => by
    obtain ⟨f, fd, F, hm, hb⟩ := G.ex
    exact ⟨f, fd, ⟨fun _ _ _ _ h => h.elim, fun _ _ _ _ _ _ _ _ _ _ _ _ _ h => h.elim⟩, hm, F.kp, hb⟩
  | n + 1 => by
    have CA := okAlike G b_isinstance b_list b_tuple b_bool b_len b_all b_range n
    refine G.ok scAlike (fun vs H Q E h => by obtain ⟨u, v, rfl, _⟩ := h; rfl) (fun f cdv A outer s0 H vs Q E hr h => ?_)
    obtain ⟨u, v, rfl, hA, q⟩ := h
    refine ⟨_, (pss_cons (ps_if (pt_val (pe_blt call_isinstT b_isinstance bo_isinstance (pa_cons (pv 1) (pa_cons (pe_tup (pa_cons (pe_ty b_list bo_list) (pa_cons (pe_ty b_tuple bo_tuple) pa_nil))) pa_nil)))) (pss_cons (ps_if (PW.pt (pw_or (pt_cmpR op_ne (pe_blt call_isinst b_isinstance bo_isinstance (pa_cons (pv 1) (pa_cons (pe_ty b_list bo_list) pa_nil))) (pe_blt call_isinst b_isinstance bo_isinstance (pa_cons (pv 0) (pa_cons (pe_ty b_list bo_list) pa_nil))) (nomark _)) (pw_or1 (pt_cmpR op_ne (pe_blt call_isinst b_isinstance bo_isinstance (pa_cons (pv 1) (pa_cons (pe_ty b_tuple bo_tuple) pa_nil))) (pe_blt call_isinst b_isinstance bo_isinstance (pa_cons (pv 0) (pa_cons (pe_ty b_tuple bo_tuple) pa_nil))) (nomark _))))) (pss_one (ps_ret pe_bl)) pss_nil)
      (pss_cons (ps_if (pt_cmpR op_ne (pe_blt call_len b_len bo_len (pa_cons (pv 0) pa_nil)) (pe_blt call_len b_len bo_len (pa_cons (pv 1) pa_nil)) (nomark _)) (pss_one (ps_ret pe_bl)) pss_nil)
      (pss_one (ps_ret (pe_blt (call_all rfl) b_all bo_all (pa_cons (pe_lc1 (N := ["_law_found", "_law_due"]) (sc := defScope sAlike) (ix := [0, 1]) (by decide +kernel) (pi_range1 rfl b_range.no (pa_cons (pe_blt call_len b_len bo_len (pa_cons (pv 1) pa_nil)) pa_nil)) (fun _ _ _ _ => pts_nil) (fun _ _ _ _ => (pe_cal CA hr (pa_cons (pe_ix (ix_lstH.or ix_tupH) (pv 1) (pv 0) (fun _ _ => rfl)) (pa_cons (pe_ix (ix_lstH.or ix_tupH) (pv 2) (pv 0) (fun _ _ => rfl)) pa_nil))))) pa_nil)))))) pss_nil)
      (pss_one (ps_ret (pe_and (pe_cmpR op_eq (pe_blt call_isinst b_isinstance bo_isinstance (pa_cons (pv 0) (pa_cons (pe_ty b_bool bo_bool) pa_nil))) (pe_blt call_isinst b_isinstance bo_isinstance (pa_cons (pv 1) (pa_cons (pe_ty b_bool bo_bool) pa_nil))) (nomark _)) (pe_one (pe_cmpR op_eq (pv 0) (pv 1) (nomark _))))))), ?_⟩
    have hA' : (u = v ∧ flatV u = true) ∨ ∃ (a b : Addr) (us vs : List V) (m : Nat), u = .ref a ∧ v = .ref b ∧ ((H a = some (.lst us) ∧ H b = some (.lst vs)) ∨ (H a = some (.tup us) ∧ H b = some (.tup vs))) ∧ n = m + 1 ∧ Paired (Alk H m) us vs ∧ us.length ≤ 2000 := by
      cases n with
      | zero => exact .inl hA
      | succ m =>
        rcases hA with h | ⟨a, b, us, vs, e1, e2, hh, hp, hl⟩
        · exact .inl h
        · exact .inr ⟨a, b, us, vs, m, e1, e2, hh, rfl, hp, hl⟩
    rcases hA' with ⟨rfl, fu⟩ | ⟨a, b, us, vs, m, rfl, rfl, hh, rfl, hp, hl⟩
    · obtain ⟨T, pt, n1, n2⟩ := flat_plain (K := K) (H := H) fu
      have sc : scal u u = true := by
        cases u <;> first | rfl | exact absurd (show false = true from fu) Bool.false_ne_true
      refine ⟨_, rfl, by show 2 ≤ sizeLine; decide, fun t ht => ?_⟩
      have k1 : Keep [] H (upd H t (.tup [.ty "list", .ty "tuple"])) := Keep.new ht
      refine ⟨_, T, t, ["list", "tuple"], _, rfl, pt.keep k1, upd_same, kitLT (pt.keep k1), _, rfl, ?_⟩
      refine ifF (by simp [n1, n2]) ?_
      have kt := (pt.keep k1).kit.2.2.1
      refine ⟨_, rfl, _, _, _, _, rfl, (pt.keep k1).ty, kt, _, rfl, _, _, _, _, rfl, (pt.keep k1).ty, kt, rfl, _, rfl, ?_⟩
      refine ifT (by simp) ⟨_, rfl, _, rfl, sc, ?_⟩
      rw [decide_eq_true rfl]
      exact q _ k1
    · have hlen := paired_len hp
      refine ⟨_, rfl, by show 2 ≤ sizeLine; decide, fun t ht => ?_⟩
      have k1 : Keep [] H (upd H t (.tup [.ty "list", .ty "tuple"])) := Keep.new ht
      generalize hH1 : upd H t (.tup [.ty "list", .ty "tuple"]) = H1 at k1 ⊢
      have hh1 := ref_keep k1 hh
      obtain ⟨T, pa, pb, hT⟩ := ty_ref (K := K) hh1
      refine ⟨_, T, t, ["list", "tuple"], _, rfl, pb, by rw [← hH1]; exact upd_same, kitLT pb, _, rfl, ?_⟩
      refine ifT (by rcases hT with h | h <;> rw [h] <;> rfl) ?_
      refine ⟨_, rfl, _, _, _, _, rfl, pb.ty, pb.kit.2.2.2.1, _, rfl, _, _, _, _, rfl, pa.ty, pa.kit.2.2.2.1, rfl, _, rfl, ?_⟩
      refine ifF (by simp) ?_
      refine ⟨_, rfl, _, _, _, _, rfl, pb.ty, pb.kit.2.2.2.2, _, rfl, _, _, _, _, rfl, pa.ty, pa.kit.2.2.2.2, rfl, _, rfl, ?_⟩
      refine ifF (by simp) ?_
      obtain ⟨l1, l2⟩ := len_ref (K := K) hh1
      refine ⟨_, rfl, _, _, rfl, l1, _, rfl, _, _, rfl, l2, rfl, _, rfl, ?_⟩
      refine ifF (by rw [hlen]; simp) ?_
      refine ⟨_, rfl, _, _, rfl, l2, _, rfl, by omega, by omega, fun acc hacc => ?_⟩
      refine lc_range0 (by rw [sizeLine_eq]; omega) (fun i ys τ H2 => ∃ (k : Option V), τ = [k, some (.ref a), some (.ref b)] ∧ ys = List.replicate i (V.bl true) ∧ Keep [acc] H1 H2 ∧ H2 acc = some (.lst ys)) ?_ ?_ ?_ ?_
      · exact ⟨_, rfl, rfl, Keep.at (by simp), upd_same⟩
      · rintro i ys τ H2 ⟨k, rfl, rfl, kp, h2⟩
        exact ⟨h2, by simp⟩
      · rintro i ys τ H2 hi ⟨k, rfl, rfl, kp, h2⟩
        have hi' : i < vs.length := by omega
        have hi2 : i < us.length := by omega
        have k2 : Keep [] H1 H2 := kp.drop hacc
        have hh2 := ref_keep k2 hh1
        obtain ⟨y, ey, ay⟩ := paired_get hp i us[i] (List.getElem?_eq_getElem hi2)
        have ix1 : ∀ {p : Addr} {zs : List V} {x : V} {Q : VK}, zs[i]? = some x → (H2 p = some (.lst zs) ∨ H2 p = some (.tup zs)) → Q x H2 → (rIxH (.ref p) (.int (0 + (i : Int))) H2 Q ∨ rIxTH (.ref p) (.int (0 + (i : Int))) H2 Q) := fun {p zs x Q} e1 e2 e3 => by
          have e4 : atI zs (0 + (i : Int)) = some x := by rw [Int.zero_add]; exact atI_nat e1
          exact e2.elim (fun z => .inl ⟨p, zs, _, x, rfl, rfl, z, e4, e3⟩) (fun z => .inr ⟨p, zs, _, x, rfl, rfl, z, e4, e3⟩)
        refine ⟨_, rfl, _, rfl, ix1 (List.getElem?_eq_getElem hi2) (hh2.imp (·.1) (·.1)) ⟨_, rfl, _, rfl, ix1 ey (hh2.imp (·.2) (·.2)) ?_⟩⟩
        refine ⟨us[i], y, rfl, Alk.keep (k1.trans k2) m ay, fun H3 k3 => ⟨k3 _ _ (by simp) h2, _, rfl, ?_, (kp.trans (k3.mono (by simp))).trans (Keep.at (by simp)), upd_same⟩⟩
        rw [List.replicate_succ']
      · rintro ys τ H2 ⟨k, rfl, rfl, kp, h2⟩
        refine ⟨acc, List.replicate _ true, rfl, .of (by rw [h2, List.map_replicate]), ?_⟩
        have e : (List.replicate ((vs.length : Nat) : Int).toNat true).all id = true := by simp
        rw [e]
        exact q _ (k1.trans (kp.drop hacc))
end
end K11

set_option Elab.async false
set_option linter.all false
set_option maxRecDepth 100000
set_option maxHeartbeats 4000000
namespace K11
open PySem L2
noncomputable abbrev sCell : Stmt := top 23
noncomputable abbrev sMixed : Stmt := top 24
noncomputable abbrev sDigits : Stmt := top 25
noncomputable abbrev sNext : Stmt := top 26
noncomputable abbrev sNames : Stmt := top 27
noncomputable abbrev sTold : Stmt := top 31
noncomputable def Src (H : Hp) (p : Addr) : Prop := ∃ a b c : Int, H p = some (.lst [.int a, .int b, .int c])
noncomputable def LowS (z : Str) : Prop := ∀ c ∈ z.cps.toList, letterB c = true
theorem abc_low : ∀ c ∈ abc.cps.toList, letterB c = true := by decide +kernel
theorem low_app {x y : Str} (h1 : LowS x) (h2 : LowS y) : LowS (x ++ y) := by
  intro c hc
  have e : (x ++ y).cps.toList = x.cps.toList ++ y.cps.toList := by
    show (x.cps ++ y.cps).toList = _
    simp
  rw [e] at hc
  exact (List.mem_append.mp hc).elim (h1 c) (h2 c)
theorem low_one {ch : Nat} (h : ch ∈ abc.cps.toList) : LowS ⟨#[ch]⟩ := fun c hc => by
  have e : c = ch := by simpa using hc
  rw [e]; exact abc_low ch h
theorem low_slice {x : Str} (h : LowS x) (lo hi : Option Int) : LowS (Txt.slice x lo hi) := by
  intro c hc
  unfold Txt.slice at hc
  split at hc
  · exact h c hc
  · simp only [List.mem_filterMap] at hc
    obtain ⟨i, _, e⟩ := hc
    exact h c (by
      rw [← Array.getElem?_toList] at e
      exact List.mem_of_getElem? e)
theorem low_fold : ∀ (zs : List Str) (acc : Array Nat), (∀ c ∈ acc.toList, letterB c = true) → (∀ z ∈ zs, LowS z) → ∀ c ∈ (zs.foldl (fun acc p => acc ++ (Str.ofString "").cps ++ p.cps) acc).toList, letterB c = true
  | [], acc, h, _ => h
  | z :: zs, acc, h, hz => by
    rw [List.foldl_cons]
    refine low_fold zs _ (fun c hc => ?_) fun y hy => hz y (List.mem_cons_of_mem _ hy)
    have hc' : c ∈ acc.toList ++ (Str.ofString "").cps.toList ++ z.cps.toList := by simpa using hc
    rcases List.mem_append.mp hc' with q | q
    · rcases List.mem_append.mp q with q | q
      · exact h c q
      · exact absurd q (by show ¬ c ∈ ([] : List Nat); simp)
    · exact hz z List.mem_cons_self c q
theorem low_join (zs : List Str) (h : ∀ z ∈ zs, LowS z) : LowS (Txt.join (Str.ofString "") zs) := by
  cases zs with
  | nil => intro c hc; exact absurd hc (by show ¬ c ∈ ([] : List Nat); simp)
  | cons z zs =>
    show ∀ c ∈ ((zs.foldl (fun acc p => acc ++ (Str.ofString "").cps ++ p.cps) z.cps)).toList, letterB c = true
    exact low_fold zs _ (h z List.mem_cons_self) fun y hy => h y (List.mem_cons_of_mem _ hy)
theorem name_of {z : Str} (h : LowS z) (h1 : 1 ≤ z.length) (h2 : z.length ≤ 8) : nameS z = true := by
  unfold nameS
  rw [decide_eq_true h1, decide_eq_true h2]
  simp only [Bool.true_and]
  exact List.all_eq_true.mpr h
section
variable {P : Program} {w : World} {K : PySem.W.Frag} {mg : Str → Option Value} {base : Heap} {C : Addr}
noncomputable def spMixed : Sp := fun vs H Q _ => ∃ a k, vs = [.int a, .int k] ∧ ∀ v : Int, 0 ≤ v → v < 2147483629 → Q (.int v) H
theorem scMixed : FnScope ["_law_cell", "_law_k", "_law_number"] ["_law_cell", "_law_k"] (defScope sMixed) := ⟨rfl, rfl, rfl, by decide +kernel, rfl, by decide +kernel, by decide +kernel⟩
theorem okMixed (G : FunG K mg "_law_mixed" sMixed ["_law_cell", "_law_k"]) : Cal P w K mg base CX0 1 "_law_mixed" ["_law_cell", "_law_k"] spMixed := by
  refine G.ok scMixed (fun vs H Q E h => by obtain ⟨a, k, rfl, _⟩ := h; rfl) (fun f cdv A outer s H vs Q E hr h => ?_)
  obtain ⟨a, k, rfl, q⟩ := h
  refine ⟨_, pss_cons (ps_set (i := 2) scMixed.nd rfl (Or.inl rfl) (pe_op op_mod (pe_op op_mul (pe_op op_add (pe_op op_add (pe_op op_mod (pv 0) pe_int) (pe_op op_mul pe_int (pv 1))) pe_int) pe_int) pe_int))
    (pss_cons (ps_set (i := 2) scMixed.nd rfl (Or.inl rfl) (pe_op op_mod (pe_op op_mul (pv 2) (pe_op op_add (pe_op op_fdiv (pv 2) pe_int) pe_int)) pe_int))
    (pss_cons (ps_set (i := 2) scMixed.nd rfl (Or.inl rfl) (pe_op op_mod (pe_op op_mul (pv 2) (pe_op op_add (pe_op op_add (pe_op op_fdiv (pv 2) pe_int) pe_int) (pv 1))) pe_int))
    (pss_one (ps_ret (pe_op op_mod (pe_op op_mul (pv 2) (pe_op op_add (pe_op op_fdiv (pv 2) pe_int) pe_int)) pe_int))))), ?_⟩
  have pp : (0 : Int) < 2147483629 := by decide
  have modb : ∀ x : Int, -(2 ^ 64) < x % 2147483629 ∧ x % 2147483629 < 2 ^ 64 := fun x => ⟨Int.lt_of_lt_of_le (by decide) (Int.emod_nonneg x (by decide)), Int.lt_trans (Int.emod_lt_of_pos x (by decide)) (by decide)⟩
  refine ⟨_, rfl, _, _, rfl, rfl, pp, _, rfl, _, _, rfl, rfl, .inl ⟨by decide, by decide⟩, _, _, rfl, rfl, _, _, rfl, rfl, _, _, rfl, rfl, .inr ⟨by decide, by decide⟩, _, _, rfl, rfl, pp, ?_⟩
  refine ⟨_, rfl, _, rfl, _, _, rfl, rfl, ⟨by decide, by decide⟩, _, _, rfl, rfl, _, _, rfl, rfl, .inl (modb _), _, _, rfl, rfl, pp, ?_⟩
  refine ⟨_, rfl, _, rfl, _, _, rfl, rfl, ⟨by decide, by decide⟩, _, _, rfl, rfl, _, rfl, _, _, rfl, rfl, _, _, rfl, rfl, .inl (modb _), _, _, rfl, rfl, pp, ?_⟩
  exact ⟨_, rfl, _, rfl, _, _, rfl, rfl, ⟨by decide, by decide⟩, _, _, rfl, rfl, _, _, rfl, rfl, .inl (modb _), _, _, rfl, rfl, pp, q _ (Int.emod_nonneg _ (by decide)) (Int.emod_lt_of_pos _ pp)⟩

noncomputable def spDigits : Sp := fun vs H Q _ => ∃ a, vs = [.int a] ∧ ∀ (p : Addr) (b c d : Int), H p = none → Q (.ref p) (upd H p (.lst [.int b, .int c, .int d]))
theorem scDigits : FnScope ["_law_cell"] ["_law_cell"] (defScope sDigits) := ⟨rfl, rfl, rfl, by decide +kernel, rfl, by decide +kernel, by decide +kernel⟩
theorem okDigits (G : FunG K mg "_law_digits" sDigits ["_law_cell"]) : Cal P w K mg base CX0 1 "_law_digits" ["_law_cell"] spDigits := by
  refine G.ok scDigits (fun vs H Q E h => by obtain ⟨a, rfl, _⟩ := h; rfl) (fun f cdv A outer s H vs Q E hr h => ?_)
  obtain ⟨a, rfl, q⟩ := h
  refine ⟨_, pss_one (ps_ret (pe_lst (pa_cons (pe_op op_mul (pe_op op_fdiv (pv 0) pe_int) (pe_op op_sub pe_int (pe_op op_mod (pv 0) pe_int))) (pa_cons (pv 0) (pa_cons pe_int pa_nil))))), ?_⟩
  have one : ∀ x : Int, -(2 ^ 64) < 1 - x % 2 ∧ 1 - x % 2 < 2 ^ 64 := fun x => by
    have h0 := Int.emod_nonneg x (show (2 : Int) ≠ 0 by decide)
    have h1 := Int.emod_lt_of_pos x (show (0 : Int) < 2 by decide)
    omega
  exact ⟨_, rfl, _, _, rfl, rfl, ⟨by decide, by decide⟩, _, rfl, _, _, rfl, rfl, (show (0 : Int) < 2 by decide), _, _, rfl, rfl, _, _, rfl, rfl, .inr (one _), _, rfl, by show 3 ≤ sizeLine; decide, fun p hp => q p _ _ _ hp⟩

noncomputable def spNext : Sp := fun vs H Q _ => ∃ (p : Addr) (a b c m : Int), vs = [.ref p, .int m] ∧ H p = some (.lst [.int a, .int b, .int c]) ∧ 0 < m ∧ m < 4611686018427387904 ∧
  ∀ v a' c' : Int, 0 ≤ v → v < m → Q (.int v) (upd H p (.lst [.int a', .int b, .int c']))
theorem scNext : FnScope ["_law_source", "_law_many", "_law_found"] ["_law_source", "_law_many"] (defScope sNext) := ⟨rfl, rfl, rfl, by decide +kernel, rfl, by decide +kernel, by decide +kernel⟩
theorem okNext (G : FunG K mg "_law_next" sNext ["_law_source", "_law_many"]) (CM : Cal P w K mg base CX0 1 "_law_mixed" ["_law_cell", "_law_k"] spMixed) : Cal P w K mg base CX0 2 "_law_next" ["_law_source", "_law_many"] spNext := by
  refine G.ok scNext (fun vs H Q E h => by obtain ⟨p, a, b, c, m, rfl, _⟩ := h; rfl) (fun f cdv A outer s H vs Q E hr h => ?_)
  obtain ⟨p, a, b, c, m, rfl, hp, m0, m1, q⟩ := h
  refine ⟨_, pss_cons (ps_if (pt_cmpR op_gt (pe_ix ix_lstH (pv 0) pe_int (fun _ _ => rfl)) pe_int (nomark _))
      (pss_cons (ps_set (i := 2) scNext.nd rfl (Or.inl rfl) (pe_op op_mod (pe_ix ix_lstH (pv 0) pe_int (fun _ _ => rfl)) (pv 1)))
      (pss_cons (ps_asg (pe_op op_fdivB (pe_ix ix_lstH (pv 0) pe_int (fun _ _ => rfl)) (pv 1)) (pg_sub (pv 0) pe_int set_list))
      (pss_one (ps_ret (pv 2))))) pss_nil)
    (pss_cons (ps_asg (pe_op op_add (pe_ix ix_lstH (pv 0) pe_int (fun _ _ => rfl)) pe_int) (pg_sub (pv 0) pe_int set_list))
    (pss_one (ps_ret (pe_op op_mod (pe_cal CM hr (pa_cons (pe_ix ix_lstH (pv 0) pe_int (fun _ _ => rfl)) (pa_cons (pe_ix ix_lstH (pv 0) pe_int (fun _ _ => rfl)) pa_nil))) (pv 1))))), ?_⟩
  have m0' : m ≠ 0 := Int.ne_of_gt m0
  refine ⟨_, rfl, p, _, 0, _, rfl, rfl, hp, atI_nat (j := 0) rfl, _, _, rfl, rfl, _, rfl, ?_⟩
  refine ite2 (fun _ => ?_) (fun _ => ?_)
  · refine ⟨_, rfl, p, _, 0, _, rfl, rfl, hp, atI_nat (j := 0) rfl, _, rfl, _, _, rfl, rfl, m0, ?_⟩
    exact ⟨_, rfl, p, _, 0, _, rfl, rfl, hp, atI_nat (j := 0) rfl, _, rfl, _, _, rfl, rfl, ⟨m0, m1⟩, _, rfl, p, _, 0, 0, rfl, rfl, hp, rfl, _, rfl, q _ _ _ (Int.emod_nonneg _ m0') (Int.emod_lt_of_pos _ m0)⟩
  · refine ⟨_, rfl, p, _, 2, _, rfl, rfl, hp, atI_nat (j := 2) rfl, _, _, rfl, rfl, _, rfl, p, _, 2, 2, rfl, rfl, hp, rfl, ?_⟩
    refine ⟨_, rfl, p, _, 1, _, rfl, rfl, upd_same, atI_nat (j := 1) rfl, _, rfl, p, _, 2, _, rfl, rfl, upd_same, atI_nat (j := 2) rfl, _, _, rfl, fun v v0 v1 => ⟨_, rfl, _, _, rfl, rfl, m0, q _ _ _ (Int.emod_nonneg _ m0') (Int.emod_lt_of_pos _ m0)⟩⟩

noncomputable def spCell (K : PySem.W.Frag) : Sp := fun vs H Q _ => ∃ (a : Addr) (ns : List Int) (k : Int), vs = [.ref a, .int k] ∧ SqL K H a (ns.map V.int) ∧ 0 ≤ k ∧ ∀ v : Int, Q (.int v) H
theorem scNames : FnScope ["_law_source", "_law_many", "_law_letters", "_law_start", "_law_stem"] ["_law_source", "_law_many"] (defScope sNames) := ⟨rfl, rfl, rfl, by decide +kernel, rfl, by decide +kernel, by decide +kernel⟩

/-- the stem: seven (or six) letters, drawn -/
theorem stem_turns {xs : List Str} {te : TE} {n : Nat} {σ : St} {H1 : Hp} {Q : VK} {acc p : Addr} {ix : List Nat} {rest : List (Option V)} (hn : n ≤ 100) (hs : Src H1 p) (ha : H1 acc = none)
    (hσ : stC xs ix σ = none :: rest)
    (ht : ∀ (k : V) (H2 : Hp) (R : VK), Src H2 p → (∀ (ch : Nat) (H3 : Hp), ch ∈ abc.cps.toList → Keep [p] H2 H3 → Src H3 p → R (.str ⟨#[ch]⟩) H3) → te (some k :: rest) H2 R)
    (q : ∀ (zs : List Str) (H2 : Hp), zs.length = n → (∀ z ∈ zs, LowS z ∧ z.length = 1) → Keep [p] H1 H2 → Src H2 p → H2 acc = some (.lst (zs.map V.str)) → Q (.ref acc) H2) :
    LCW (Itr 0 n) xs ix (gName 0) tYes te σ H1 acc Q := by
  have pa : acc ≠ p := by
    obtain ⟨a, b, c, h⟩ := hs
    exact Ne.symm (ne_of_none h ha)
  refine lc_range0 (by rw [sizeLine_eq]; omega) (fun i ys τ H2 => ∃ (zs : List Str) (k : Option V), τ = k :: rest ∧ ys = zs.map V.str ∧ zs.length = i ∧ (∀ z ∈ zs, LowS z ∧ z.length = 1) ∧ Keep [acc, p] H1 H2 ∧ Src H2 p ∧ H2 acc = some (.lst ys)) ?_ ?_ ?_ ?_
  · obtain ⟨a, b, c, h⟩ := hs
    exact ⟨[], none, hσ, rfl, rfl, (fun z hz => by cases hz), Keep.at (by simp), ⟨a, b, c, by rw [upd_ne (Ne.symm pa)]; exact h⟩, upd_same⟩
  · rintro i ys τ H2 ⟨zs, k, rfl, rfl, hl, _, _, _, h2⟩
    exact ⟨h2, by rw [List.length_map]; omega⟩
  · rintro i ys τ H2 hi ⟨zs, k, rfl, rfl, hl, h1, kp, hs2, h2⟩
    refine ht _ H2 _ hs2 fun ch H3 hc k3 hz45 => ?_
    obtain ⟨a, b, c, hs3⟩ := hz45
    refine ⟨k3 _ _ (by simp [pa]) h2, zs ++ [⟨#[ch]⟩], _, rfl, by simp, by simp [hl], ?_, (kp.trans (k3.mono (by simp))).trans (Keep.at (by simp)), ⟨a, b, c, by rw [upd_ne (Ne.symm pa)]; exact hs3⟩, upd_same⟩
    intro z hz
    rcases List.mem_append.mp hz with z1 | z1
    · exact h1 z z1
    · rw [List.mem_singleton.mp z1]; exact ⟨low_one hc, rfl⟩
  · rintro ys τ H2 ⟨zs, k, rfl, rfl, hl, h1, kp, hs2, h2⟩
    exact q zs H2 hl h1 (kp.drop ha) hs2 h2
theorem sum_low (zs : List Str) (h : ∀ z ∈ zs, LowS z ∧ z.length = 1) : (zs.map (·.length)).sum = zs.length := sum_ones zs fun z hz => (h z hz).2
noncomputable def GoodN (z : Str) : Prop := nameS z = true ∧ z.length ≤ 8
noncomputable def spNames : Sp := fun vs H Q _ => ∃ (p : Addr) (m : Int), vs = [.ref p, .int m] ∧ Src H p ∧ 0 ≤ m ∧ m ≤ 26 ∧
  ∀ (r : Addr) (zs : List Str) (H' : Hp), H r = none → H' r = some (.lst (zs.map V.str)) → zs.length = m.toNat → (∀ z ∈ zs, GoodN z) → Keep [p] H H' → Src H' p → Q (.ref r) H'
theorem okNames (G : FunG K mg "_law_names" sNames ["_law_source", "_law_many"]) (CN : Cal P w K mg base CX0 2 "_law_next" ["_law_source", "_law_many"] spNext) (b_range : Blt mg "range") : Cal P w K mg base CX0 3 "_law_names" ["_law_source", "_law_many"] spNames := by
  refine G.ok scNames (fun vs H Q E h => by obtain ⟨p, m, rfl, _⟩ := h; rfl) (fun f cdv A outer s0 H vs Q E hr h => ?_)
  obtain ⟨p, m, rfl, ⟨a, b, c, hp⟩, m0, m1, q⟩ := h
  have hr2 : Room 2 _ := hr.mono (by decide)
  refine ⟨_, (pss_cons (ps_set (i := 2) scNames.nd rfl (Or.inr rfl) pe_str)
      (pss_cons (ps_set (i := 3) scNames.nd rfl (Or.inr rfl) (pe_cal CN hr2 (pa_cons (pv 0) (pa_cons pe_int pa_nil))))
      (pss_cons (ps_set (i := 4) scNames.nd rfl (Or.inr rfl) (pe_bm PySem.F.plainAttrs_str PySem.F.slot_str_join PySem.F.type_str_join mt_join pe_str (pa_cons (pe_lc1 (N := ["_law_source", "_law_many", "_law_letters", "_law_start", "_law_stem"]) (sc := defScope sNames) (ix := [2, 0]) (by decide +kernel) (pi_range1 rfl b_range.no (pa_cons pe_int pa_nil)) (fun _ _ _ _ => pts_nil) (fun _ _ _ _ => (pe_ix ix_str (pv 1) (pe_cal CN hr2 (pa_cons (pv 2) (pa_cons pe_int pa_nil))) (fun _ _ => rfl)))) pa_nil)))
      (pss_one (ps_ret (pe_lc1 (N := ["_law_source", "_law_many", "_law_letters", "_law_start", "_law_stem"]) (sc := defScope sNames) (ix := [4, 2, 0, 3]) (by decide +kernel) (pi_range1 rfl b_range.no (pa_cons (pv 1) pa_nil)) (fun _ _ _ _ => pts_nil) (fun _ _ _ _ => (pe_op op_add_str (pe_slice sl_str (pv 1) po_none (po_some (pe_cal CN hr2 (pa_cons (pv 3) (pa_cons pe_int pa_nil))))) (pe_ix ix_str (pv 2) (pe_op op_mod (pe_op op_add (pv 4) (pv 0)) pe_int) (fun _ _ => rfl)))))))))), ?_⟩
  -- start
  refine ⟨_, rfl, p, a, b, c, 26, rfl, hp, by decide, by decide, fun st a1 c1 st0 st1 => ?_⟩
  have k1 : Keep [p] H (upd H p (.lst [.int a1, .int b, .int c1])) := Keep.at (by simp)
  generalize hH1 : upd H p (.lst [.int a1, .int b, .int c1]) = H1 at k1 ⊢
  have s1 : Src H1 p := ⟨a1, b, c1, by rw [← hH1]; exact upd_same⟩
  -- stem
  refine ⟨rfl, 7, rfl, by decide, by decide, fun acc ha => ?_⟩
  refine stem_turns (p := p) (by decide) s1 ha rfl (fun k H2 R ⟨a2, b2, c2, hs⟩ R' => ?_) ?_
  · refine ⟨_, rfl, _, rfl, p, a2, b2, c2, 26, rfl, hs, by decide, by decide, fun v2 a3 c3 w0 w1 => ?_⟩
    obtain ⟨ch, hc1, hc2⟩ := atI_in (xs := abc.cps.toList) w0 (show v2 < ((26 : Nat) : Int) from w1)
    exact ⟨_, v2, ch, rfl, rfl, by decide, hc1, R' ch _ (List.mem_of_getElem? hc2) (Keep.at (by simp)) ⟨a3, b2, c3, upd_same⟩⟩
  intro zs H2 hzl hz k2 s2 h2
  refine ⟨"", acc, zs, rfl, rfl, .of h2, by rw [sum_low zs hz, hzl]; decide, ?_⟩
  have hstem : LowS (Txt.join (Str.ofString "") zs) := low_join zs fun z h => (hz z h).1
  have lstem : (Txt.join (Str.ofString "") zs).length = 7 := by rw [join_len, sum_low zs hz, hzl]; rfl
  generalize Txt.join (Str.ofString "") zs = stem at hstem lstem ⊢
  -- the names
  refine ⟨_, rfl, m, rfl, by omega, by omega, fun acc2 ha2 => ?_⟩
  have pa : acc2 ≠ p := by
    obtain ⟨x, y, z, h⟩ := s2
    exact Ne.symm (ne_of_none h ha2)
  have na : H acc2 = none := k1.none (by simp [pa]) (k2.none (by simp [pa]) ha2)
  refine lc_range0 (by rw [sizeLine_eq]; omega) (fun i ys τ H3 => ∃ (ws : List Str) (k : Option V), τ = k :: [some (.str stem), some (.str abc), some (.ref p), some (.int st)] ∧ ys = ws.map V.str ∧ ws.length = i ∧ (∀ z ∈ ws, GoodN z) ∧ Keep [acc2, p] H2 H3 ∧ Src H3 p ∧ H3 acc2 = some (.lst ys)) ?_ ?_ ?_ ?_
  · obtain ⟨x, y, z, h⟩ := s2
    exact ⟨[], none, rfl, rfl, rfl, (fun z hz => by cases hz), Keep.at (by simp), ⟨x, y, z, by rw [upd_ne (Ne.symm pa)]; exact h⟩, upd_same⟩
  · rintro i ys τ H3 ⟨ws, k, rfl, rfl, hl, _, _, _, h3⟩
    exact ⟨h3, by rw [List.length_map]; omega⟩
  · rintro i ys τ H3 hi ⟨ws, k, rfl, rfl, hl, h1, kp, ⟨a2, b2, c2, hs⟩, h3⟩
    refine ⟨_, rfl, _, rfl, p, a2, b2, c2, 8, rfl, hs, by decide, by decide, fun v a3 c3 v0 v1 => ⟨v, rfl, stem, rfl, by rw [lstem, sizeLine_eq]; decide, ?_⟩⟩
    refine ⟨_, rfl, _, rfl, _, rfl, _, _, rfl, rfl, _, _, rfl, rfl, (by show (0 : Int) < 26; decide), ?_⟩
    have g0 : 0 ≤ (st + (0 + (i : Int))) % 26 := Int.emod_nonneg _ (by decide)
    have g1 : (st + (0 + (i : Int))) % 26 < 26 := Int.emod_lt_of_pos _ (by decide)
    obtain ⟨ch, hc1, hc2⟩ := atI_in (xs := abc.cps.toList) g0 (show (st + (0 + (i : Int))) % 26 < ((26 : Nat) : Int) from g1)
    have e1 := Txt.slice_le stem none (some v)
    refine ⟨_, _, ch, rfl, rfl, by decide, hc1, _, _, rfl, rfl, by rw [sizeLine_eq]; show _ + 1 ≤ _; omega, ?_⟩
    refine ⟨by rw [upd_ne pa]; exact h3, ws ++ [Txt.slice stem none (some v) ++ ⟨#[ch]⟩], _, rfl, by simp, by simp [hl], ?_, (kp.trans (Keep.at (by simp))).trans (Keep.at (by simp)), ⟨a3, b2, c3, by rw [upd_ne (Ne.symm pa), upd_same]⟩, upd_same⟩
    intro z hz
    rcases List.mem_append.mp hz with z1 | z1
    · exact h1 z z1
    · rw [List.mem_singleton.mp z1]
      have el : (Txt.slice stem none (some v) ++ (⟨#[ch]⟩ : Str)).length = (Txt.slice stem none (some v)).length + 1 := by rw [len_app]; rfl
      exact ⟨name_of (low_app (low_slice hstem _ _) (low_one (List.mem_of_getElem? hc2))) (by omega) (by omega), by omega⟩
  · rintro ys τ H3 ⟨ws, k, rfl, rfl, hl, h1, kp, hs3, h3⟩
    exact q acc2 ws H3 na h3 hl h1 ((k1.trans k2).trans (kp.drop ha2)) hs3
theorem scTold : FnScope ["_law_seat"] ["_law_seat"] (defScope sTold) := ⟨rfl, rfl, rfl, by decide +kernel, rfl, by decide +kernel, by decide +kernel⟩

theorem fl_ar (a : V) (wl : Addr) (h : V) (k : Bool) : (flds a wl h k).lookup ("arrow" : Str) = none := fl_no a wl h k (by decide +kernel) (by decide +kernel) (by decide +kernel) (by decide +kernel)
theorem fl_ro (a : V) (wl : Addr) (h : V) (k : Bool) : (flds a wl h k).lookup ("row" : Str) = none := fl_no a wl h k (by decide +kernel) (by decide +kernel) (by decide +kernel) (by decide +kernel)
theorem fl_in (a : V) (wl : Addr) (h : V) (k : Bool) : (flds a wl h k).lookup ("inside" : Str) = none := fl_no a wl h k (by decide +kernel) (by decide +kernel) (by decide +kernel) (by decide +kernel)
theorem fl_ha (a : V) (wl : Addr) (h : V) (k : Bool) : (flds a wl h k).lookup ("has_asked" : Str) = none := fl_no a wl h k (by decide +kernel) (by decide +kernel) (by decide +kernel) (by decide +kernel)
noncomputable def spTold (C : Addr) : Sp := fun vs H Q _ => ∃ (p wl : Addr) (s : SS), vs = [.ref p] ∧ SeatAt C H p wl s ∧
  ∀ (r t : Addr) (H' : Hp), H r = none → H t = none → H' r = some (.lst [optV s.ptr, .ref t, optV s.hold, .bl s.asked]) → Rows H' t (s.row.map rowV) → Keep [] H H' → Q (.ref r) H'
theorem okTold (T : SeatT K C) (G : FunG K mg "_law_told" sTold ["_law_seat"]) (MA : MCal P w K mg base CX0 1 C "arrow" ["self"] (spArrow C)) (MR : MCal P w K mg base CX0 1 C "row" ["self"] (spRow C)) (MI : MCal P w K mg base CX0 1 C "inside" ["self"] (spInside C)) (MH : MCal P w K mg base CX0 1 C "has_asked" ["self"] (spHas C)) :
    Cal P w K mg base CX0 2 "_law_told" ["_law_seat"] (spTold C) := by
  refine G.ok scTold (fun vs H Q E h => by obtain ⟨p, wl, s, rfl, _⟩ := h; rfl) (fun f cdv A outer s0 H vs Q E hr h => ?_)
  obtain ⟨p, wl, s, rfl, S, q⟩ := h
  have hr1 : Room 1 _ := hr.mono (by decide)
  obtain ⟨dx, hob⟩ := S.ob
  refine ⟨_, (pss_one (ps_ret (pe_lst (pa_cons (pe_mth0 MA T.cl hr1 (pv 0)) (pa_cons (pe_mth0 MR T.cl hr1 (pv 0)) (pa_cons (pe_mth0 MI T.cl hr1 (pv 0)) (pa_cons (pe_mth0 MH T.cl hr1 (pv 0)) pa_nil))))))), ?_⟩
  refine ⟨_, rfl, p, dx, _, rfl, hob, fl_ar _ _ _ _, p, wl, s, rfl, S, ?_⟩
  refine ⟨_, rfl, p, dx, _, rfl, hob, fl_ro _ _ _ _, p, wl, s, rfl, S, fun t H1 ht R1 k1 => ?_⟩
  have hob1 := k1 _ _ (by simp) hob
  refine ⟨_, rfl, p, dx, _, rfl, hob1, fl_in _ _ _ _, p, wl, s, rfl, S.keep k1, ?_⟩
  refine ⟨_, rfl, p, dx, _, rfl, hob1, fl_ha _ _ _ _, p, wl, s, rfl, S.keep k1, by show 4 ≤ sizeLine; decide, fun r hr' => ?_⟩
  exact q r t _ (k1.none (by simp) hr') ht upd_same (R1.keep (Keep.new hr')) (k1.trans (Keep.new hr'))

end
end K11

set_option Elab.async false
set_option linter.all false
set_option maxRecDepth 100000
set_option maxHeartbeats 4000000
namespace K11
open PySem L2
section
variable {P : Program} {w : World} {K : PySem.W.Frag} {mg : Str → Option Value} {base : Heap} {C : Addr}
/-- an arrow: a name or None; another thing is refused -/
noncomputable def spInitX (K : PySem.W.Frag) (C CS : Addr) : Sp := fun vs H Q E => ∃ (p dx : Addr) (x : V), vs = [.ref p, x] ∧ H p = some (.ins C dx []) ∧
  ((∃ ar : Option Str, x = optV ar ∧ (∀ z, ar = some z → nameS z = true ∧ z.length ≤ 1000) ∧ ∀ (wl : Addr) (H' : Hp), H wl = none → SeatAt C H' p wl ⟨ar, [], none, false⟩ → Keep [p] H H' → Q .non H') ∨
   (∃ T, PlainT K H x T ∧ x ≠ .non ∧ nameV x = false ∧ (∀ z, x = .str z → z.length ≤ 1000) ∧ ∀ H', Keep [] H H' → E (.ref CS) none H'))
theorem okInitX {fI CS : Addr} {fd : FuncData} (T : SeatT K C) (G : Fun K "__init__" "Seat.__init__" sInit fI fd) (CI : Cal P w K mg base CX0 1 "is_name" ["thing"] (spName K)) (ex : ExcC K mg "NoSeat" CS) : FnOk P w K mg base (CXE P w) 2 fI fd ["self", "arrow"] (spInitX K C CS) := by
  refine G.okX scInit (fun vs H Q E h => by obtain ⟨p, dx, x, rfl, _⟩ := h; rfl) (fun cdv A outer s0 H vs Q E hr h => ?_)
  obtain ⟨p, dx, xv, rfl, hp, h⟩ := h
  have hr1 : Room 1 _ := hr.mono (by decide)
  refine ⟨_, (pss_cons (ps_if (PW.pt (pw_and (pt_cmpR op_notN (pv 1) pe_non (nomark _)) (pw_and1 (pt_not (pt_val (pe_cal CI hr1 (pa_cons (pv 1) pa_nil))))))) (pss_one (ps_raise (raiseOk_cx hr) ex)) pss_nil)
      (pss_cons (ps_fld (pv 0) (pv 1) rfl)
      (pss_cons (ps_fld (pv 0) (pe_lst pa_nil) rfl)
      (pss_cons (ps_fld (pv 0) pe_non rfl)
      (pss_one (ps_fld (pv 0) pe_bl rfl)))))), ?_⟩
  rcases h with ⟨ar, rfl, hz, q⟩ | ⟨Ty, pt, hnn, hnm, hzl, q⟩
  · have rest : ∀ H1, Keep [] H H1 → (tSeq (sFld K (tVar 0) (tVar 1) "pointer") (tSeq (sFld K (tVar 0) (tLst tNil) "waiting") (tSeq (sFld K (tVar 0) (tC .non) "holder") (sFld K (tVar 0) (tC (.bl false)) "asked")))) { nx := fun _ H' => Q .non H', rt := Q } (L2.start ["self", "arrow"] [.ref p, optV ar]) H1 := fun H1 k1 => by
      have hp1 := k1 _ _ (by simp) hp
      refine ⟨_, rfl, _, rfl, p, C, dx, _, rfl, hp1, T.cl, T.nP, by show 0 < 1000; decide, Nat.zero_le _, fun wl hw => ?_⟩
      obtain ⟨hw1, wp⟩ := upd_none hw
      refine ⟨_, rfl, p, C, dx, _, rfl, by rw [upd_ne (Ne.symm wp), upd_same], T.cl, T.nW, by show 1 < 1000; decide, ?_⟩
      refine ⟨_, rfl, p, C, dx, _, rfl, upd_same, T.cl, T.nH, by show 2 < 1000; decide, ?_⟩
      refine ⟨_, rfl, p, C, dx, _, rfl, upd_same, T.cl, T.nA, by show 3 < 1000; decide, ?_⟩
      dsimp only
      rw [put_all, upd_upd, upd_upd]
      refine q wl _ (k1.none (by simp) hw1) ⟨⟨dx, upd_same⟩, ⟨[], by rw [upd_ne wp, upd_same]; rfl, .nil⟩, Nat.zero_le _⟩ ?_
      exact ((((k1.mono (by simp)).trans (Keep.at (by simp))).trans (Keep.new hw))).trans (Keep.at (by simp))
    cases ar with
    | none => exact ⟨_, rfl, rfl, _, rfl, ifF rfl (ifF rfl (rest H (Keep.refl _)))⟩
    | some z =>
      obtain ⟨h1, h2⟩ := hz z rfl
      refine ⟨_, rfl, rfl, _, rfl, ifT rfl ?_⟩
      refine ⟨_, rfl, _, "str", rfl, .str z, (fun z' e => by cases e; exact h2), fun H1 k1 => ⟨_, rfl, ?_⟩⟩
      exact ifF (by show (!nameS z) = false; rw [h1]; rfl) (rest H1 k1)
  · have hb : decide (xv = V.non) = false := decide_eq_false hnn
    refine ⟨_, rfl, ?_, _, rfl, ifT ?_ ?_⟩
    · cases xv <;> first | rfl | exact absurd rfl hnn
    · first | (rw [hb]; rfl) | (cases xv <;> first | rfl | exact absurd rfl hnn)
    · refine ⟨_, rfl, _, Ty, rfl, pt, hzl, fun H1 k1 => ⟨_, rfl, ?_⟩⟩
      exact ifT (by rw [hnm]; rfl) (q H1 k1)
end
end K11

set_option Elab.async false
set_option linter.all false
set_option maxRecDepth 100000
set_option maxHeartbeats 4000000
namespace K11
open PySem L2
section
variable {P : Program} {w : World} {K : PySem.W.Frag} {mg : Str → Option Value} {base : Heap} {C : Addr}
noncomputable abbrev sKinds : Stmt := top 29
theorem bo_ValueError : bootBuiltins "ValueError" = some (.type "ValueError") := by decide +kernel
/-- the twelve classes of refusals, by their places -/
structure Kn (K : PySem.W.Frag) (mg : Str → Option Value) (cs : Nat → Addr) : Prop where
  g0 : Glo mg "NoTree" (.ref (cs 0))
  g1 : Glo mg "NoHouse" (.ref (cs 1))
  g2 : Glo mg "NoSeat" (.ref (cs 2))
  g3 : Glo mg "NoAsker" (.ref (cs 3))
  g4 : Glo mg "NoLetter" (.ref (cs 4))
  g5 : Glo mg "NoRight" (.ref (cs 5))
  g6 : Glo mg "NoRow" (.ref (cs 6))
  g7 : Glo mg "NoTie" (.ref (cs 7))
  g8 : Glo mg "Down" (.ref (cs 8))
  g9 : Glo mg "NoMend" (.ref (cs 9))
  g10 : Glo mg "NoText" (.ref (cs 10))
  g11 : Glo mg "NoLine" (.ref (cs 11))
  kd : ∀ i j, i < 12 → j < 12 → PySem.W.kitOne K (.ref (cs i)) (.ref (cs j)) = some (decide (i = j))
  kv : ∀ i, i < 12 → PySem.W.kitOne K (.ref (cs i)) (.type "ValueError") = some true
  ke : ∀ i, i < 12 → ExcK K (cs i)
noncomputable def words : List Str := ["tree", "house", "seat", "asker", "letter", "right", "row", "tie", "down", "mend", "text", "line"]
noncomputable def wordOf (i : Nat) : Str := words.getD i ""
theorem word_at {i : Nat} (hi : i < 12) : (words.map V.str)[i]? = some (.str (wordOf i)) := by
  have e : words.length = 12 := rfl
  rw [List.getElem?_map, List.getElem?_eq_getElem (by rw [e]; exact hi)]
  unfold wordOf
  rw [List.getD_eq_getElem?_getD, List.getElem?_eq_getElem (by rw [e]; exact hi)]; rfl
noncomputable def flags (d : Nat → Bool) : List V := [.bl (d 0), .bl (d 1), .bl (d 2), .bl (d 3), .bl (d 4), .bl (d 5), .bl (d 6), .bl (d 7), .bl (d 8), .bl (d 9), .bl (d 10), .bl (d 11)]
theorem flag_at {d : Nat → Bool} {j : Nat} (hj : j < 12) : (flags d)[j]? = some (.bl (d j)) := by
  have e : flags d = (List.range 12).map fun j => V.bl (d j) := rfl
  rw [e, List.getElem?_map, List.getElem?_range hj]; rfl
theorem scKinds : FnScope ["_law_e", "_law_kinds_here", "_law_words", "_law_found"] ["_law_e"] (defScope sKinds) := ⟨rfl, rfl, rfl, by decide +kernel, rfl, by decide +kernel, by decide +kernel⟩
noncomputable def spKinds (cs : Nat → Addr) : Sp := fun vs H Q _ => ∃ (a : Addr) (i : Nat), vs = [.ref a] ∧ i < 12 ∧ H a = some (excO (cs i) a) ∧ ∀ H', Keep [] H H' → Q (.str (wordOf i)) H'
noncomputable def spKindsH (cs : Nat → Addr) : SpH := fun hx vs H Q => ∃ (i : Nat), vs = [.ref hx] ∧ i < 12 ∧ H hx = some (excO (cs i) hx) ∧ ∀ H', Keep [] H H' → Q (.str (wordOf i)) H'
theorem okKinds {cs : Nat → Addr} (kn : Kn K mg cs) (G : FunG K mg "_law_kinds" sKinds ["_law_e"]) (b_isinstance : Blt mg "isinstance") (b_len : Blt mg "len") (b_range : Blt mg "range") (b_ValueError : Blt mg "ValueError") :
    Cal P w K mg base CX0 1 "_law_kinds" ["_law_e"] (spKinds cs) := by
  refine G.ok scKinds (fun vs H Q E h => by obtain ⟨a, i, rfl, _⟩ := h; rfl) (fun f cdv A outer s0 H vs Q E hr h => ?_)
  obtain ⟨a, i, rfl, hi, ha, q⟩ := h
  refine ⟨_, (pss_cons (ps_set (i := 1) scKinds.nd rfl (Or.inr rfl) (pe_lst (pa_cons (pe_blt (call_isE (D := cs 0)) b_isinstance bo_isinstance (pa_cons (pv 0) (pa_cons (pe_glo kn.g0) pa_nil))) (pa_cons (pe_blt (call_isE (D := cs 1)) b_isinstance bo_isinstance (pa_cons (pv 0) (pa_cons (pe_glo kn.g1) pa_nil))) (pa_cons (pe_blt (call_isE (D := cs 2)) b_isinstance bo_isinstance (pa_cons (pv 0) (pa_cons (pe_glo kn.g2) pa_nil))) (pa_cons (pe_blt (call_isE (D := cs 3)) b_isinstance bo_isinstance (pa_cons (pv 0) (pa_cons (pe_glo kn.g3) pa_nil))) pa_nil))))))
      (pss_cons (ps_set (i := 1) scKinds.nd rfl (Or.inr rfl) (pe_op op_cat (pv 1) (pe_lst (pa_cons (pe_blt (call_isE (D := cs 4)) b_isinstance bo_isinstance (pa_cons (pv 0) (pa_cons (pe_glo kn.g4) pa_nil))) (pa_cons (pe_blt (call_isE (D := cs 5)) b_isinstance bo_isinstance (pa_cons (pv 0) (pa_cons (pe_glo kn.g5) pa_nil))) (pa_cons (pe_blt (call_isE (D := cs 6)) b_isinstance bo_isinstance (pa_cons (pv 0) (pa_cons (pe_glo kn.g6) pa_nil))) (pa_cons (pe_blt (call_isE (D := cs 7)) b_isinstance bo_isinstance (pa_cons (pv 0) (pa_cons (pe_glo kn.g7) pa_nil))) pa_nil)))))))
      (pss_cons (ps_set (i := 1) scKinds.nd rfl (Or.inr rfl) (pe_op op_cat (pv 1) (pe_lst (pa_cons (pe_blt (call_isE (D := cs 8)) b_isinstance bo_isinstance (pa_cons (pv 0) (pa_cons (pe_glo kn.g8) pa_nil))) (pa_cons (pe_blt (call_isE (D := cs 9)) b_isinstance bo_isinstance (pa_cons (pv 0) (pa_cons (pe_glo kn.g9) pa_nil))) (pa_cons (pe_blt (call_isE (D := cs 10)) b_isinstance bo_isinstance (pa_cons (pv 0) (pa_cons (pe_glo kn.g10) pa_nil))) (pa_cons (pe_blt (call_isE (D := cs 11)) b_isinstance bo_isinstance (pa_cons (pv 0) (pa_cons (pe_glo kn.g11) pa_nil))) pa_nil)))))))
      (@pss_cons _ _ _ _ _ (@ps_setL _ _ _ 2 _ _ _ _ scKinds.nd rfl (Or.inr rfl) (Or.inl rfl) (@pa_all _ _ (words.map V.str) (.cons .str (.cons .str (.cons .str (.cons .str (.cons .str (.cons .str (.cons .str (.cons .str (.cons .str (.cons .str (.cons .str (.cons .str .nil))))))))))))))
      (pss_cons (ps_setLC1 (i := 3) scKinds.nd rfl (Or.inl rfl) (N := ["_law_e", "_law_kinds_here", "_law_words", "_law_found"]) (sc := defScope sKinds) (ix := [2, 1]) (by decide +kernel) (pi_range1 rfl b_range.no (pa_cons pe_int pa_nil)) (fun _ _ _ _ => (pts_one (pt_val (pe_ix ix_lstH (pv 2) (pv 0) (fun _ _ => rfl))))) (fun _ _ _ _ => (pe_ix ix_lstH (pv 1) (pv 0) (fun _ _ => rfl))))
      (pss_cons (ps_if (PW.pt (pw_or (pt_cmpR op_ne (pe_blt call_len b_len bo_len (pa_cons (pv 3) pa_nil)) pe_int (nomark _)) (pw_or1 (pt_not (pt_val (pe_blt (call_isET (T := "ValueError")) b_isinstance bo_isinstance (pa_cons (pv 0) (pa_cons (pe_ty b_ValueError bo_ValueError) pa_nil)))))))) (pss_one (ps_ret pe_str)) pss_nil)
      (pss_one (ps_ret (pe_ix ix_lstH (pv 3) pe_int (fun _ _ => rfl)))))))))), ?_⟩
  obtain ⟨d, hd⟩ : ∃ d : Nat → Bool, ∀ j, d j = decide (i = j) := ⟨fun j => decide (i = j), fun _ => rfl⟩
  have kd : ∀ j, j < 12 → PySem.W.kitOne K (.ref (cs i)) (.ref (cs j)) = some (d j) := fun j hj => (kn.kd i j hi hj).trans (congrArg some (hd j).symm)
  have ke := kn.ke i hi
  refine ⟨_, rfl, a, cs i, _, rfl, ha, ke, kd 0 (by decide), ?_⟩
  refine ⟨_, rfl, a, cs i, _, rfl, ha, ke, kd 1 (by decide), ?_⟩
  refine ⟨_, rfl, a, cs i, _, rfl, ha, ke, kd 2 (by decide), ?_⟩
  refine ⟨_, rfl, a, cs i, _, rfl, ha, ke, kd 3 (by decide), ?_⟩
  refine ⟨by show 4 ≤ sizeLine; decide, fun p1 f1 => ?_⟩
  have k1 := Keep.new (S := []) (o := .lst [.bl (d 0), .bl (d 1), .bl (d 2), .bl (d 3)]) f1
  have e1 : upd H p1 (.lst [.bl (d 0), .bl (d 1), .bl (d 2), .bl (d 3)]) p1 = some (.lst [.bl (d 0), .bl (d 1), .bl (d 2), .bl (d 3)]) := upd_same
  generalize upd H p1 (.lst [.bl (d 0), .bl (d 1), .bl (d 2), .bl (d 3)]) = H1 at k1 e1 ⊢
  have ha1 := k1 _ _ (by simp) ha
  refine ⟨_, rfl, ?_⟩
  refine ⟨_, rfl, a, cs i, _, rfl, ha1, ke, kd 4 (by decide), ?_⟩
  refine ⟨_, rfl, a, cs i, _, rfl, ha1, ke, kd 5 (by decide), ?_⟩
  refine ⟨_, rfl, a, cs i, _, rfl, ha1, ke, kd 6 (by decide), ?_⟩
  refine ⟨_, rfl, a, cs i, _, rfl, ha1, ke, kd 7 (by decide), ?_⟩
  refine ⟨by show 4 ≤ sizeLine; decide, fun p2 f2 => ?_⟩
  have k2 := Keep.new (S := []) (o := .lst [.bl (d 4), .bl (d 5), .bl (d 6), .bl (d 7)]) f2
  refine ⟨p1, p2, _, _, rfl, rfl, k2 _ _ (by simp) e1, upd_same, by show 8 ≤ sizeLine; decide, fun p3 f3 => ?_⟩
  have k3 := k2.trans (Keep.new (S := []) (o := .lst ([.bl (d 0), .bl (d 1), .bl (d 2), .bl (d 3)] ++ [.bl (d 4), .bl (d 5), .bl (d 6), .bl (d 7)])) f3)
  have e3 := upd_same (H := upd H1 p2 (.lst [.bl (d 4), .bl (d 5), .bl (d 6), .bl (d 7)])) (a := p3) (o := .lst ([.bl (d 0), .bl (d 1), .bl (d 2), .bl (d 3)] ++ [.bl (d 4), .bl (d 5), .bl (d 6), .bl (d 7)]))
  generalize upd (upd H1 p2 _) p3 _ = H3 at k3 e3 ⊢
  have ha3 := k3 _ _ (by simp) ha1
  refine ⟨_, rfl, ?_⟩
  refine ⟨_, rfl, a, cs i, _, rfl, ha3, ke, kd 8 (by decide), ?_⟩
  refine ⟨_, rfl, a, cs i, _, rfl, ha3, ke, kd 9 (by decide), ?_⟩
  refine ⟨_, rfl, a, cs i, _, rfl, ha3, ke, kd 10 (by decide), ?_⟩
  refine ⟨_, rfl, a, cs i, _, rfl, ha3, ke, kd 11 (by decide), ?_⟩
  refine ⟨by show 4 ≤ sizeLine; decide, fun p4 f4 => ?_⟩
  have k4 := Keep.new (S := []) (o := .lst [.bl (d 8), .bl (d 9), .bl (d 10), .bl (d 11)]) f4
  refine ⟨p3, p4, _, _, rfl, rfl, k4 _ _ (by simp) e3, upd_same, by show 12 ≤ sizeLine; decide, fun p5 f5 => ?_⟩
  have k5 : Keep [] H3 (upd (upd H3 p4 (.lst [.bl (d 8), .bl (d 9), .bl (d 10), .bl (d 11)])) p5 (.lst (flags d))) := k4.trans (Keep.new f5)
  have e5 := upd_same (H := upd H3 p4 (.lst [.bl (d 8), .bl (d 9), .bl (d 10), .bl (d 11)])) (a := p5) (o := .lst (flags d))
  change tSeq _ _ _ _ (upd (upd H3 p4 (.lst [.bl (d 8), .bl (d 9), .bl (d 10), .bl (d 11)])) p5 (.lst (flags d)))
  generalize upd (upd H3 p4 (.lst [.bl (d 8), .bl (d 9), .bl (d 10), .bl (d 11)])) p5 (.lst (flags d)) = H5 at k5 e5 ⊢
  have ha5 := k5 _ _ (by simp) ha3
  refine ⟨by show 12 ≤ sizeLine; decide, fun p6 f6 => ?_⟩
  have k6 : Keep [] H5 (upd H5 p6 (.lst (words.map V.str))) := Keep.new f6
  have e6 := upd_same (H := H5) (a := p6) (o := .lst (words.map V.str))
  have e5' := k6 _ _ (by simp) e5
  change tSeq _ _ _ _ (upd H5 p6 (.lst (words.map V.str)))
  generalize upd H5 p6 (.lst (words.map V.str)) = H6 at k6 e6 e5' ⊢
  have ha6 := k6 _ _ (by simp) ha5
  have kA : Keep [] H H6 := ((k1.trans k3).trans k5).trans k6
  refine ⟨12, rfl, by decide, by decide, fun acc hacc => ?_⟩
  refine lc_range (n := 12) (by decide) (fun j ys τ H7 => ∃ v : Option V, τ = [v, some (.ref p6), some (.ref p5)] ∧ ys = (if i < j then [V.str (wordOf i)] else []) ∧ j ≤ 12 ∧ Keep [acc] H6 H7 ∧ H7 acc = some (.lst ys)) ?_ ?_ ?_ ?_
  · exact ⟨_, rfl, rfl, Nat.zero_le _, Keep.at (by simp), upd_same⟩
  · rintro j ys τ H7 ⟨v, rfl, rfl, hj, kp, h7⟩
    refine ⟨h7, ?_⟩
    split
    · show 1 ≤ j; omega
    · exact Nat.zero_le _
  · rintro j ys τ H7 hj ⟨v, rfl, rfl, _, kp, h7⟩
    have n5 : p5 ∉ [acc] := by simp only [List.mem_singleton]; exact ne_of_none e5' hacc
    have n6 : p6 ∉ [acc] := by simp only [List.mem_singleton]; exact ne_of_none e6 hacc
    have ej : ((0 : Int) + (j : Int)) = (j : Int) := by omega
    rw [ej]
    refine ⟨_, rfl, _, rfl, p5, _, _, _, rfl, rfl, kp _ _ n5 e5', atI_nat (flag_at hj), _, rfl, ?_⟩
    by_cases hij : i = j
    · refine ifT ((hd j).trans (decide_eq_true hij)) ?_
      subst hij
      refine ⟨_, rfl, _, rfl, p6, _, _, _, rfl, rfl, kp _ _ n6 e6, atI_nat (word_at hj), h7, _, rfl, ?_, hj, kp.trans (Keep.at (by simp)), upd_same⟩
      rw [if_neg (Nat.lt_irrefl i), if_pos (Nat.lt_succ_self i)]; rfl
    · refine ifF ((hd j).trans (decide_eq_false hij)) ⟨_, rfl, ?_, hj, kp, h7⟩
      by_cases hl : i < j
      · rw [if_pos hl, if_pos (Nat.lt_succ_of_lt hl)]
      · rw [if_neg hl, if_neg (by omega)]
  · rintro ys τ H7 ⟨v, rfl, rfl, _, kp, h7⟩
    rw [if_pos hi] at h7
    have kB : Keep [] H6 H7 := kp.drop hacc
    have ha7 := kB _ _ (by simp) ha6
    refine ⟨_, rfl, _, _, rfl, .inl ⟨_, .of h7, rfl⟩, rfl, _, rfl, ?_⟩
    refine ifF rfl ?_
    refine ⟨_, rfl, a, cs i, _, rfl, ha7, ke, kn.kv i hi, _, rfl, ?_⟩
    refine ifF rfl ?_
    refine ⟨_, rfl, acc, _, 0, _, rfl, rfl, h7, rfl, ?_⟩
    exact q _ (kA.trans kB)
theorem okKindsH {cs : Nat → Addr} (kn : Kn K mg cs) (G : FunG K mg "_law_kinds" sKinds ["_law_e"]) (b_isinstance : Blt mg "isinstance") (b_len : Blt mg "len") (b_range : Blt mg "range") (b_ValueError : Blt mg "ValueError") :
    CalH P w K mg base 1 "_law_kinds" ["_law_e"] (spKindsH cs) := by
  refine G.okH scKinds (fun hx vs H Q h => by obtain ⟨i, rfl, _⟩ := h; rfl) (fun f hx cdv A outer s0 H vs Q hh h => ?_)
  obtain ⟨i, rfl, hi, ha, q⟩ := h
  obtain ⟨a, ea⟩ : ∃ a, a = hx := ⟨_, rfl⟩
  subst ea
  refine ⟨_, (pss_cons (ps_set (i := 1) scKinds.nd rfl (Or.inr rfl) (pe_lst (pa_cons (pe_blt (call_isE (D := cs 0)) b_isinstance bo_isinstance (pa_cons (pv 0) (pa_cons (pe_glo kn.g0) pa_nil))) (pa_cons (pe_blt (call_isE (D := cs 1)) b_isinstance bo_isinstance (pa_cons (pv 0) (pa_cons (pe_glo kn.g1) pa_nil))) (pa_cons (pe_blt (call_isE (D := cs 2)) b_isinstance bo_isinstance (pa_cons (pv 0) (pa_cons (pe_glo kn.g2) pa_nil))) (pa_cons (pe_blt (call_isE (D := cs 3)) b_isinstance bo_isinstance (pa_cons (pv 0) (pa_cons (pe_glo kn.g3) pa_nil))) pa_nil))))))
      (pss_cons (ps_set (i := 1) scKinds.nd rfl (Or.inr rfl) (pe_op op_cat (pv 1) (pe_lst (pa_cons (pe_blt (call_isE (D := cs 4)) b_isinstance bo_isinstance (pa_cons (pv 0) (pa_cons (pe_glo kn.g4) pa_nil))) (pa_cons (pe_blt (call_isE (D := cs 5)) b_isinstance bo_isinstance (pa_cons (pv 0) (pa_cons (pe_glo kn.g5) pa_nil))) (pa_cons (pe_blt (call_isE (D := cs 6)) b_isinstance bo_isinstance (pa_cons (pv 0) (pa_cons (pe_glo kn.g6) pa_nil))) (pa_cons (pe_blt (call_isE (D := cs 7)) b_isinstance bo_isinstance (pa_cons (pv 0) (pa_cons (pe_glo kn.g7) pa_nil))) pa_nil)))))))
      (pss_cons (ps_set (i := 1) scKinds.nd rfl (Or.inr rfl) (pe_op op_cat (pv 1) (pe_lst (pa_cons (pe_blt (call_isE (D := cs 8)) b_isinstance bo_isinstance (pa_cons (pv 0) (pa_cons (pe_glo kn.g8) pa_nil))) (pa_cons (pe_blt (call_isE (D := cs 9)) b_isinstance bo_isinstance (pa_cons (pv 0) (pa_cons (pe_glo kn.g9) pa_nil))) (pa_cons (pe_blt (call_isE (D := cs 10)) b_isinstance bo_isinstance (pa_cons (pv 0) (pa_cons (pe_glo kn.g10) pa_nil))) (pa_cons (pe_blt (call_isE (D := cs 11)) b_isinstance bo_isinstance (pa_cons (pv 0) (pa_cons (pe_glo kn.g11) pa_nil))) pa_nil)))))))
      (@pss_cons _ _ _ _ _ (@ps_setL _ _ _ 2 _ _ _ _ scKinds.nd rfl (Or.inr rfl) (Or.inl rfl) (@pa_all _ _ (words.map V.str) (.cons .str (.cons .str (.cons .str (.cons .str (.cons .str (.cons .str (.cons .str (.cons .str (.cons .str (.cons .str (.cons .str (.cons .str .nil))))))))))))))
      (pss_cons (ps_setLC1H (ax := a) hh (i := 3) scKinds.nd rfl (Or.inl rfl) (N := ["_law_e", "_law_kinds_here", "_law_words", "_law_found"]) (sc := defScope sKinds) (ix := [2, 1]) (by decide +kernel) (pi_range1H rfl b_range.no (pa_cons pe_int pa_nil)) (fun _ _ _ _ => (pts_one (pt_val (pe_ix ix_lstH (pv 2) (pv 0) (fun _ _ => rfl))))) (fun _ _ _ _ => (pe_ix ix_lstH (pv 1) (pv 0) (fun _ _ => rfl))))
      (pss_cons (ps_if (PW.pt (pw_or (pt_cmpR op_ne (pe_blt call_len b_len bo_len (pa_cons (pv 3) pa_nil)) pe_int (nomark _)) (pw_or1 (pt_not (pt_val (pe_blt (call_isET (T := "ValueError")) b_isinstance bo_isinstance (pa_cons (pv 0) (pa_cons (pe_ty b_ValueError bo_ValueError) pa_nil)))))))) (pss_one (ps_ret pe_str)) pss_nil)
      (pss_one (ps_ret (pe_ix ix_lstH (pv 3) pe_int (fun _ _ => rfl)))))))))), ?_⟩
  obtain ⟨d, hd⟩ : ∃ d : Nat → Bool, ∀ j, d j = decide (i = j) := ⟨fun j => decide (i = j), fun _ => rfl⟩
  have kd : ∀ j, j < 12 → PySem.W.kitOne K (.ref (cs i)) (.ref (cs j)) = some (d j) := fun j hj => (kn.kd i j hi hj).trans (congrArg some (hd j).symm)
  have ke := kn.ke i hi
  refine ⟨_, rfl, a, cs i, _, rfl, ha, ke, kd 0 (by decide), ?_⟩
  refine ⟨_, rfl, a, cs i, _, rfl, ha, ke, kd 1 (by decide), ?_⟩
  refine ⟨_, rfl, a, cs i, _, rfl, ha, ke, kd 2 (by decide), ?_⟩
  refine ⟨_, rfl, a, cs i, _, rfl, ha, ke, kd 3 (by decide), ?_⟩
  refine ⟨by show 4 ≤ sizeLine; decide, fun p1 f1 => ?_⟩
  have k1 := Keep.new (S := []) (o := .lst [.bl (d 0), .bl (d 1), .bl (d 2), .bl (d 3)]) f1
  have e1 : upd H p1 (.lst [.bl (d 0), .bl (d 1), .bl (d 2), .bl (d 3)]) p1 = some (.lst [.bl (d 0), .bl (d 1), .bl (d 2), .bl (d 3)]) := upd_same
  generalize upd H p1 (.lst [.bl (d 0), .bl (d 1), .bl (d 2), .bl (d 3)]) = H1 at k1 e1 ⊢
  have ha1 := k1 _ _ (by simp) ha
  refine ⟨_, rfl, ?_⟩
  refine ⟨_, rfl, a, cs i, _, rfl, ha1, ke, kd 4 (by decide), ?_⟩
  refine ⟨_, rfl, a, cs i, _, rfl, ha1, ke, kd 5 (by decide), ?_⟩
  refine ⟨_, rfl, a, cs i, _, rfl, ha1, ke, kd 6 (by decide), ?_⟩
  refine ⟨_, rfl, a, cs i, _, rfl, ha1, ke, kd 7 (by decide), ?_⟩
  refine ⟨by show 4 ≤ sizeLine; decide, fun p2 f2 => ?_⟩
  have k2 := Keep.new (S := []) (o := .lst [.bl (d 4), .bl (d 5), .bl (d 6), .bl (d 7)]) f2
  refine ⟨p1, p2, _, _, rfl, rfl, k2 _ _ (by simp) e1, upd_same, by show 8 ≤ sizeLine; decide, fun p3 f3 => ?_⟩
  have k3 := k2.trans (Keep.new (S := []) (o := .lst ([.bl (d 0), .bl (d 1), .bl (d 2), .bl (d 3)] ++ [.bl (d 4), .bl (d 5), .bl (d 6), .bl (d 7)])) f3)
  have e3 := upd_same (H := upd H1 p2 (.lst [.bl (d 4), .bl (d 5), .bl (d 6), .bl (d 7)])) (a := p3) (o := .lst ([.bl (d 0), .bl (d 1), .bl (d 2), .bl (d 3)] ++ [.bl (d 4), .bl (d 5), .bl (d 6), .bl (d 7)]))
  generalize upd (upd H1 p2 _) p3 _ = H3 at k3 e3 ⊢
  have ha3 := k3 _ _ (by simp) ha1
  refine ⟨_, rfl, ?_⟩
  refine ⟨_, rfl, a, cs i, _, rfl, ha3, ke, kd 8 (by decide), ?_⟩
  refine ⟨_, rfl, a, cs i, _, rfl, ha3, ke, kd 9 (by decide), ?_⟩
  refine ⟨_, rfl, a, cs i, _, rfl, ha3, ke, kd 10 (by decide), ?_⟩
  refine ⟨_, rfl, a, cs i, _, rfl, ha3, ke, kd 11 (by decide), ?_⟩
  refine ⟨by show 4 ≤ sizeLine; decide, fun p4 f4 => ?_⟩
  have k4 := Keep.new (S := []) (o := .lst [.bl (d 8), .bl (d 9), .bl (d 10), .bl (d 11)]) f4
  refine ⟨p3, p4, _, _, rfl, rfl, k4 _ _ (by simp) e3, upd_same, by show 12 ≤ sizeLine; decide, fun p5 f5 => ?_⟩
  have k5 : Keep [] H3 (upd (upd H3 p4 (.lst [.bl (d 8), .bl (d 9), .bl (d 10), .bl (d 11)])) p5 (.lst (flags d))) := k4.trans (Keep.new f5)
  have e5 := upd_same (H := upd H3 p4 (.lst [.bl (d 8), .bl (d 9), .bl (d 10), .bl (d 11)])) (a := p5) (o := .lst (flags d))
  change tSeq _ _ _ _ (upd (upd H3 p4 (.lst [.bl (d 8), .bl (d 9), .bl (d 10), .bl (d 11)])) p5 (.lst (flags d)))
  generalize upd (upd H3 p4 (.lst [.bl (d 8), .bl (d 9), .bl (d 10), .bl (d 11)])) p5 (.lst (flags d)) = H5 at k5 e5 ⊢
  have ha5 := k5 _ _ (by simp) ha3
  refine ⟨by show 12 ≤ sizeLine; decide, fun p6 f6 => ?_⟩
  have k6 : Keep [] H5 (upd H5 p6 (.lst (words.map V.str))) := Keep.new f6
  have e6 := upd_same (H := H5) (a := p6) (o := .lst (words.map V.str))
  have e5' := k6 _ _ (by simp) e5
  change tSeq _ _ _ _ (upd H5 p6 (.lst (words.map V.str)))
  generalize upd H5 p6 (.lst (words.map V.str)) = H6 at k6 e6 e5' ⊢
  have ha6 := k6 _ _ (by simp) ha5
  have kA : Keep [] H H6 := ((k1.trans k3).trans k5).trans k6
  refine ⟨12, rfl, by decide, by decide, fun acc hacc => ?_⟩
  refine lc_rangeH (n := 12) (by decide) (fun j ys τ H7 => ∃ v : Option V, τ = [v, some (.ref p6), some (.ref p5)] ∧ ys = (if i < j then [V.str (wordOf i)] else []) ∧ j ≤ 12 ∧ Keep [acc] H6 H7 ∧ H7 acc = some (.lst ys)) ?_ ?_ ?_ ?_ ?_
  · exact ⟨_, rfl, rfl, Nat.zero_le _, Keep.at (by simp), upd_same⟩
  · rintro j ys τ H7 ⟨v, rfl, rfl, hj, kp, h7⟩
    refine ⟨h7, ?_⟩
    split
    · show 1 ≤ j; omega
    · exact Nat.zero_le _
  · rintro j ys τ H7 hj ⟨v, rfl, rfl, _, kp, h7⟩
    have n5 : p5 ∉ [acc] := by simp only [List.mem_singleton]; exact ne_of_none e5' hacc
    have n6 : p6 ∉ [acc] := by simp only [List.mem_singleton]; exact ne_of_none e6 hacc
    have ej : ((0 : Int) + (j : Int)) = (j : Int) := by omega
    rw [ej]
    refine ⟨_, rfl, _, rfl, p5, _, _, _, rfl, rfl, kp _ _ n5 e5', atI_nat (flag_at hj), _, rfl, ?_⟩
    by_cases hij : i = j
    · refine ifT ((hd j).trans (decide_eq_true hij)) ?_
      subst hij
      refine ⟨_, rfl, _, rfl, p6, _, _, _, rfl, rfl, kp _ _ n6 e6, atI_nat (word_at hj), h7, _, rfl, ?_, hj, kp.trans (Keep.at (by simp)), upd_same⟩
      rw [if_neg (Nat.lt_irrefl i), if_pos (Nat.lt_succ_self i)]; rfl
    · refine ifF ((hd j).trans (decide_eq_false hij)) ⟨_, rfl, ?_, hj, kp, h7⟩
      by_cases hl : i < j
      · rw [if_pos hl, if_pos (Nat.lt_succ_of_lt hl)]
      · rw [if_neg hl, if_neg (by omega)]
  · rintro ys τ H7 ⟨v, rfl, rfl, _, kp, h7⟩
    exact ⟨_, (kp.drop hacc) _ _ (by simp) ha6⟩
  · rintro ys τ H7 ⟨v, rfl, rfl, _, kp, h7⟩
    rw [if_pos hi] at h7
    have kB : Keep [] H6 H7 := kp.drop hacc
    have ha7 := kB _ _ (by simp) ha6
    refine ⟨_, rfl, _, _, rfl, .inl ⟨_, .of h7, rfl⟩, rfl, _, rfl, ?_⟩
    refine ifF rfl ?_
    refine ⟨_, rfl, a, cs i, _, rfl, ha7, ke, kn.kv i hi, _, rfl, ?_⟩
    refine ifF rfl ?_
    refine ⟨_, rfl, acc, _, 0, _, rfl, rfl, h7, rfl, ?_⟩
    exact q _ (kA.trans kB)
end
end K11

set_option Elab.async false
set_option linter.all false
set_option maxRecDepth 100000
set_option maxHeartbeats 4000000
namespace K11
open PySem L2
noncomputable abbrev sRef : Stmt := top 32
noncomputable abbrev sMade : Stmt := top 33
section
variable {P : Program} {w : World} {K : PySem.W.Frag} {mg : Str → Option Value} {base : Heap} {C : Addr}
theorem scRef : FnScope ["_law_arrow", "_law_e"] ["_law_arrow"] (defScope sRef) := ⟨rfl, rfl, rfl, by decide +kernel, rfl, by decide +kernel, by decide +kernel⟩
noncomputable def spRef (K : PySem.W.Frag) : Sp := fun vs H Q _ => ∃ (x : V) (T : String), vs = [x] ∧ PlainT K H x T ∧ x ≠ .non ∧ nameV x = false ∧ (∀ z, x = .str z → z.length ≤ 1000) ∧ ∀ H', Keep [] H H' → Q (.str "seat") H'
theorem okRef {cs : Nat → Addr} {DC : Addr} (G : FunG K mg "_law_refusal" sRef ["_law_arrow"]) (MK : MkCal P w K mg base (CXE P w) 2 C "Seat" ["self", "arrow"] (spInitX K C (cs 2))) (CK : CalH P w K mg base 1 "_law_kinds" ["_law_e"] (spKindsH cs))
    (hm : mg "TreeError" = some (.ref DC)) (hx : PySem.W.exmOne K (.ref (cs 2)) (.ref DC) = some true) : Cal P w K mg base CX0 4 "_law_refusal" ["_law_arrow"] (spRef K) := by
  refine G.ok scRef (fun vs H Q E h => by obtain ⟨x, T, rfl, _⟩ := h; rfl) (fun f cdv A outer s0 H vs Q E hr h => ?_)
  obtain ⟨x, T, rfl, pt, hnn, hnm, hz, q⟩ := h
  have hr3 : Room 3 _ := hr
  have hr1 : Room 1 _ := hr.mono (by decide)
  refine ⟨_, (pss_cons (ps_try (i := 1) (th := fun a => tRet (tCallH a (spKindsH cs) (tCons (tVar 1) tNil))) hm scRef.nd rfl rfl (fun pn' xe' E1 hp => pss_one (ps_expr (pe_mkX MK hp hr3 (pa_cons (pv 0) pa_nil))))
    (fun pn' a => pss_one (ps_ret (pe_calH CK (hr1.toH (some (.ref a))) rfl (pa_cons (pv 1) pa_nil))))) (pss_one (ps_ret pe_str))), ?_⟩
  refine ⟨_, rfl, fun y dy hy hdy hne => ⟨y, dy, x, rfl, upd_same, .inr ⟨T, ?_, hnn, hnm, hz, fun H2 k2 => ⟨cs 2, rfl, hx, fun a σ' hl ha => ?_⟩⟩⟩⟩
  · have k1 : Keep [] H (upd (upd H dy (.own y)) y (.ins C dy [])) := (Keep.new hdy).trans (Keep.new (by rw [upd_ne hne.symm]; exact hy))
    exact pt.keep k1
  · have k1 : Keep [] H (upd (upd H dy (.own y)) y (.ins C dy [])) := (Keep.new hdy).trans (Keep.new (by rw [upd_ne hne.symm]; exact hy))
    refine ⟨.ref a, ?_, 2, rfl, by decide, upd_same, fun H3 k3 => ?_⟩
    · rw [List.getElem?_set_self (by rw [hl]; show 1 < 2; decide)]
    · exact q H3 ((k1.trans k2).trans ((Keep.new ha).trans k3))
theorem scMade : FnScope ["_law_some", "_law_words"] [] (defScope sMade) := ⟨rfl, rfl, rfl, by decide +kernel, rfl, by decide +kernel, by decide +kernel⟩
/-- the classes that are made of a text -/
structure Mk11 (K : PySem.W.Frag) (mg : Str → Option Value) (cs : Nat → Addr) : Prop where
  c0 : ExcC K mg "NoTree" (cs 0)
  c1 : ExcC K mg "NoHouse" (cs 1)
  c2 : ExcC K mg "NoSeat" (cs 2)
  c3 : ExcC K mg "NoAsker" (cs 3)
  c4 : ExcC K mg "NoLetter" (cs 4)
  c5 : ExcC K mg "NoRight" (cs 5)
  c6 : ExcC K mg "NoRow" (cs 6)
  c7 : ExcC K mg "NoTie" (cs 7)
  c8 : ExcC K mg "Down" (cs 8)
  c9 : ExcC K mg "NoMend" (cs 9)
  c11 : ExcC K mg "NoLine" (cs 11)
noncomputable abbrev Exs (cs : Nat → Addr) (H : Hp) (as : List Addr) (is : List Nat) : Prop := Paired (fun a i => H a = some (excO (cs i) a)) as is
theorem Exs.keep {cs : Nat → Addr} {H H' : Hp} (k : Keep [] H H') {as : List Addr} {is : List Nat} (h : Exs cs H as is) : Exs cs H' as is := L2.Paired.mapP h fun _ _ e => k _ _ (by simp) e
theorem Exs.more {cs : Nat → Addr} {H : Hp} {a : Addr} (i : Nat) {as : List Addr} {is : List Nat} (E : Exs cs H as is) (f : H a = none) : Exs cs (upd H a (excO (cs i) a)) (as ++ [a]) (is ++ [i]) :=
  paired_snoc (Exs.keep (Keep.new f) E) upd_same
noncomputable def ids : List Nat := [0, 1, 2, 3, 4, 5, 6, 7, 8, 9, 11]
noncomputable def spMade : Sp := fun vs H Q _ => vs = [] ∧ ∀ H', Keep [] H H' → Q (.bl true) H'
theorem okMade {cs : Nat → Addr} {DC : Addr} (G : FunG K mg "_law_made_of_texts" sMade []) (CK : Cal P w K mg base CX0 1 "_law_kinds" ["_law_e"] (spKinds cs)) (hc : Mk11 K mg cs) (kn : Kn K mg cs) (gT : Glo mg "TreeError" (.ref DC))
    (kT : ∀ i, i < 12 → PySem.W.kitOne K (.ref (cs i)) (.ref DC) = some true) (b_isinstance : Blt mg "isinstance") (b_all : Blt mg "all") : Cal P w K mg base CX0 2 "_law_made_of_texts" [] spMade := by
  refine G.ok scMade (fun vs H Q E h => by obtain ⟨rfl, _⟩ := h; rfl) (fun f cdv A outer s0 H vs Q E hr h => ?_)
  obtain ⟨rfl, q⟩ := h
  have hr1 : Room 1 _ := hr
  have hu : (A.deeper (PyProof.Rows.envOfC "_law_made_of_texts" (defScope sMade) s0.heap.objs.size f cdv)).units < cLine := by have := hu_of hr; omega
  refine ⟨_, (pss_cons (ps_set (i := 0) scMade.nd rfl (Or.inl rfl) (pe_lst (pa_cons (pe_exc hc.c0 rfl (by decide)) (pa_cons (pe_exc hc.c1 rfl (by decide)) (pa_cons (pe_exc hc.c2 rfl (by decide)) (pa_cons (pe_exc hc.c3 rfl (by decide)) (pa_cons (pe_exc hc.c4 rfl (by decide)) pa_nil)))))))
      (pss_cons (ps_set (i := 0) scMade.nd rfl (Or.inl rfl) (pe_op op_cat (pv 0) (pe_lst (pa_cons (pe_exc hc.c5 rfl (by decide)) (pa_cons (pe_exc hc.c6 rfl (by decide)) (pa_cons (pe_exc hc.c7 rfl (by decide)) (pa_cons (pe_exc hc.c8 rfl (by decide)) (pa_cons (pe_exc hc.c9 rfl (by decide)) pa_nil))))))))
      (pss_cons (ps_set (i := 0) scMade.nd rfl (Or.inl rfl) (pe_op op_cat (pv 0) (pe_lst (pa_cons (pe_exc hc.c11 rfl (by decide)) pa_nil))))
      (@pss_cons _ _ _ _ _ (@ps_setL _ _ _ 1 _ _ _ _ scMade.nd rfl (Or.inl rfl) (Or.inl rfl) (@pa_all _ _ (ids.map fun i => V.str (wordOf i)) (.cons .str (.cons .str (.cons .str (.cons .str (.cons .str (.cons .str (.cons .str (.cons .str (.cons .str (.cons .str (.cons .str .nil)))))))))))))
      (pss_cons (ps_if (pt_cmpR (op_neS hu) (pe_lc1 (N := ["_law_some", "_law_words"]) (sc := defScope sMade) (ix := []) (by decide +kernel) (pi_list (pv 0)) (fun _ _ _ _ => pts_nil) (fun _ _ _ _ => (pe_cal CK hr1 (pa_cons (pv 0) pa_nil)))) (pv 1) (nomark _)) (pss_one (ps_ret pe_bl)) pss_nil)
      (pss_one (ps_ret (pe_blt (call_all rfl) b_all bo_all (pa_cons (pe_lc1 (N := ["_law_some", "_law_words"]) (sc := defScope sMade) (ix := []) (by decide +kernel) (pi_list (pv 0)) (fun _ _ _ _ => pts_nil) (fun _ _ _ _ => (pe_blt (show CallR _ _ (rIsE K (.ref DC) (.ref DC)) from call_isE) b_isinstance bo_isinstance (pa_cons (pv 0) (pa_cons (pe_glo gT) pa_nil))))) pa_nil))))))))), ?_⟩
  refine fun a0 f0 a1 f1 a2 f2 a3 f3 a4 f4 => ⟨by show 5 ≤ sizeLine; decide, fun p1 g1 => ?_⟩
  have kA : Keep [] H (upd (upd (upd (upd (upd (upd H a0 (excO (cs 0) a0)) a1 (excO (cs 1) a1)) a2 (excO (cs 2) a2)) a3 (excO (cs 3) a3)) a4 (excO (cs 4) a4)) p1 (.lst ([a0, a1, a2, a3, a4].map V.ref))) := ((((((Keep.refl (S := []) H).trans (Keep.new (o := excO (cs 0) a0) f0)).trans (Keep.new (o := excO (cs 1) a1) f1)).trans (Keep.new (o := excO (cs 2) a2) f2)).trans (Keep.new (o := excO (cs 3) a3) f3)).trans (Keep.new (o := excO (cs 4) a4) f4)).trans (Keep.new g1)
  have E1 : Exs cs (upd (upd (upd (upd (upd (upd H a0 (excO (cs 0) a0)) a1 (excO (cs 1) a1)) a2 (excO (cs 2) a2)) a3 (excO (cs 3) a3)) a4 (excO (cs 4) a4)) p1 (.lst ([a0, a1, a2, a3, a4].map V.ref))) [a0, a1, a2, a3, a4] [0, 1, 2, 3, 4] := Exs.keep (Keep.new g1) (Exs.more 4 (Exs.more 3 (Exs.more 2 (Exs.more 1 (Exs.more 0 (Paired.nil : Exs cs H [] []) f0) f1) f2) f3) f4)
  have e1 : upd (upd (upd (upd (upd (upd H a0 (excO (cs 0) a0)) a1 (excO (cs 1) a1)) a2 (excO (cs 2) a2)) a3 (excO (cs 3) a3)) a4 (excO (cs 4) a4)) p1 (.lst ([a0, a1, a2, a3, a4].map V.ref)) p1 = some (.lst ([a0, a1, a2, a3, a4].map V.ref)) := upd_same
  change tSeq _ _ _ _ (upd (upd (upd (upd (upd (upd H a0 (excO (cs 0) a0)) a1 (excO (cs 1) a1)) a2 (excO (cs 2) a2)) a3 (excO (cs 3) a3)) a4 (excO (cs 4) a4)) p1 (.lst ([a0, a1, a2, a3, a4].map V.ref)))
  generalize upd (upd (upd (upd (upd (upd H a0 (excO (cs 0) a0)) a1 (excO (cs 1) a1)) a2 (excO (cs 2) a2)) a3 (excO (cs 3) a3)) a4 (excO (cs 4) a4)) p1 (.lst ([a0, a1, a2, a3, a4].map V.ref)) = H1 at kA E1 e1 ⊢
  refine ⟨_, rfl, fun a5 f5 a6 f6 a7 f7 a8 f8 a9 f9 => ⟨by show 5 ≤ sizeLine; decide, fun p2 gp2 => ⟨p1, p2, _, _, rfl, rfl, (((((((Keep.refl (S := []) H1).trans (Keep.new (o := excO (cs 5) a5) f5)).trans (Keep.new (o := excO (cs 6) a6) f6)).trans (Keep.new (o := excO (cs 7) a7) f7)).trans (Keep.new (o := excO (cs 8) a8) f8)).trans (Keep.new (o := excO (cs 9) a9) f9)).trans (Keep.new gp2)) _ _ (by simp) e1, upd_same, by show 10 ≤ sizeLine; decide, fun p3 gp3 => ?_⟩⟩⟩
  have kB : Keep [] H1 (upd (upd (upd (upd (upd (upd (upd H1 a5 (excO (cs 5) a5)) a6 (excO (cs 6) a6)) a7 (excO (cs 7) a7)) a8 (excO (cs 8) a8)) a9 (excO (cs 9) a9)) p2 (.lst ([a5, a6, a7, a8, a9].map V.ref))) p3 (.lst ([a0, a1, a2, a3, a4, a5, a6, a7, a8, a9].map V.ref))) := (((((((Keep.refl (S := []) H1).trans (Keep.new (o := excO (cs 5) a5) f5)).trans (Keep.new (o := excO (cs 6) a6) f6)).trans (Keep.new (o := excO (cs 7) a7) f7)).trans (Keep.new (o := excO (cs 8) a8) f8)).trans (Keep.new (o := excO (cs 9) a9) f9)).trans (Keep.new gp2)).trans (Keep.new gp3)
  have EB : Exs cs (upd (upd (upd (upd (upd (upd (upd H1 a5 (excO (cs 5) a5)) a6 (excO (cs 6) a6)) a7 (excO (cs 7) a7)) a8 (excO (cs 8) a8)) a9 (excO (cs 9) a9)) p2 (.lst ([a5, a6, a7, a8, a9].map V.ref))) p3 (.lst ([a0, a1, a2, a3, a4, a5, a6, a7, a8, a9].map V.ref))) [a0, a1, a2, a3, a4, a5, a6, a7, a8, a9] [0, 1, 2, 3, 4, 5, 6, 7, 8, 9] := Exs.keep (Keep.new gp3) (Exs.keep (Keep.new gp2) (Exs.more 9 (Exs.more 8 (Exs.more 7 (Exs.more 6 (Exs.more 5 E1 f5) f6) f7) f8) f9))
  have eB : (upd (upd (upd (upd (upd (upd (upd H1 a5 (excO (cs 5) a5)) a6 (excO (cs 6) a6)) a7 (excO (cs 7) a7)) a8 (excO (cs 8) a8)) a9 (excO (cs 9) a9)) p2 (.lst ([a5, a6, a7, a8, a9].map V.ref))) p3 (.lst ([a0, a1, a2, a3, a4, a5, a6, a7, a8, a9].map V.ref))) p3 = some (.lst ([a0, a1, a2, a3, a4, a5, a6, a7, a8, a9].map V.ref)) := upd_same
  change tSeq _ _ _ _ (upd (upd (upd (upd (upd (upd (upd H1 a5 (excO (cs 5) a5)) a6 (excO (cs 6) a6)) a7 (excO (cs 7) a7)) a8 (excO (cs 8) a8)) a9 (excO (cs 9) a9)) p2 (.lst ([a5, a6, a7, a8, a9].map V.ref))) p3 (.lst ([a0, a1, a2, a3, a4, a5, a6, a7, a8, a9].map V.ref)))
  generalize (upd (upd (upd (upd (upd (upd (upd H1 a5 (excO (cs 5) a5)) a6 (excO (cs 6) a6)) a7 (excO (cs 7) a7)) a8 (excO (cs 8) a8)) a9 (excO (cs 9) a9)) p2 (.lst ([a5, a6, a7, a8, a9].map V.ref))) p3 (.lst ([a0, a1, a2, a3, a4, a5, a6, a7, a8, a9].map V.ref))) = H3 at kB EB eB ⊢
  refine ⟨_, rfl, fun a10 f10 => ⟨by show 1 ≤ sizeLine; decide, fun p4 gp4 => ⟨p3, p4, _, _, rfl, rfl, (((Keep.refl (S := []) H3).trans (Keep.new (o := excO (cs 11) a10) f10)).trans (Keep.new gp4)) _ _ (by simp) eB, upd_same, by show 11 ≤ sizeLine; decide, fun p5 gp5 => ?_⟩⟩⟩
  have kC : Keep [] H3 (upd (upd (upd H3 a10 (excO (cs 11) a10)) p4 (.lst ([a10].map V.ref))) p5 (.lst ([a0, a1, a2, a3, a4, a5, a6, a7, a8, a9, a10].map V.ref))) := (((Keep.refl (S := []) H3).trans (Keep.new (o := excO (cs 11) a10) f10)).trans (Keep.new gp4)).trans (Keep.new gp5)
  have EC : Exs cs (upd (upd (upd H3 a10 (excO (cs 11) a10)) p4 (.lst ([a10].map V.ref))) p5 (.lst ([a0, a1, a2, a3, a4, a5, a6, a7, a8, a9, a10].map V.ref))) [a0, a1, a2, a3, a4, a5, a6, a7, a8, a9, a10] ids := Exs.keep (Keep.new gp5) (Exs.keep (Keep.new gp4) (Exs.more 11 EB f10))
  have eC : (upd (upd (upd H3 a10 (excO (cs 11) a10)) p4 (.lst ([a10].map V.ref))) p5 (.lst ([a0, a1, a2, a3, a4, a5, a6, a7, a8, a9, a10].map V.ref))) p5 = some (.lst ([a0, a1, a2, a3, a4, a5, a6, a7, a8, a9, a10].map V.ref)) := upd_same
  change tSeq _ _ _ _ (upd (upd (upd H3 a10 (excO (cs 11) a10)) p4 (.lst ([a10].map V.ref))) p5 (.lst ([a0, a1, a2, a3, a4, a5, a6, a7, a8, a9, a10].map V.ref)))
  generalize (upd (upd (upd H3 a10 (excO (cs 11) a10)) p4 (.lst ([a10].map V.ref))) p5 (.lst ([a0, a1, a2, a3, a4, a5, a6, a7, a8, a9, a10].map V.ref))) = H5 at kC EC eC ⊢
  refine ⟨by show 11 ≤ sizeLine; decide, fun p6 g6 => ?_⟩
  have kD : Keep [] H5 (upd H5 p6 (.lst (ids.map fun i => V.str (wordOf i)))) := Keep.new g6
  have eD : upd H5 p6 (.lst (ids.map fun i => V.str (wordOf i))) p6 = some (.lst (ids.map fun i => V.str (wordOf i))) := upd_same
  change tSeq _ _ _ _ (upd H5 p6 (.lst (ids.map fun i => V.str (wordOf i))))
  have ED := Exs.keep kD EC
  have e5 := kD _ _ (by simp) eC
  generalize upd H5 p6 (.lst (ids.map fun i => V.str (wordOf i))) = H6 at kD eD ED e5 ⊢
  have kall : Keep [] H H6 := ((kA.trans kB).trans kC).trans kD
  have small : ∀ i ∈ ids, i < 12 := by decide
  generalize [a0, a1, a2, a3, a4, a5, a6, a7, a8, a9, a10] = as at ED e5
  have las := paired_len ED
  refine ⟨_, rfl, p5, rfl, ⟨_, .of e5⟩, fun acc hacc => ?_⟩
  refine lc_list0 (its := as.map V.ref) (by rw [List.length_map, las]; decide) (fun i ys τ H7 => ∃ v : Option V, τ = [v] ∧ ys = (ids.take i).map (fun i => V.str (wordOf i)) ∧ i ≤ ids.length ∧ Keep [acc] H6 H7 ∧ H7 acc = some (.lst ys)) ?_ ?_ ?_ ?_
  · exact ⟨_, rfl, rfl, Nat.zero_le _, Keep.at (by simp), upd_same⟩
  · rintro i ys τ H7 ⟨v, rfl, rfl, hi, kp, h7⟩
    refine ⟨h7, by rw [List.length_map, List.length_take]; exact Nat.min_le_left _ _, .of (kp _ _ (by simp only [List.mem_singleton]; exact ne_of_none e5 hacc) e5)⟩
  · rintro i ys τ H7 x hx ⟨v, rfl, rfl, hi, kp, h7⟩
    rw [List.getElem?_map] at hx
    obtain ⟨a, ha, rfl⟩ := Option.map_eq_some_iff.mp hx
    obtain ⟨j, hj, hE⟩ := paired_get ED i a ha
    have hE7 := kp _ _ (by simp only [List.mem_singleton]; exact ne_of_none hE hacc) hE
    refine ⟨_, rfl, a, j, rfl, small j (List.mem_of_getElem? hj), hE7, fun H8 k8 => ⟨k8 _ _ (by simp) h7, _, rfl, ?_, ?_, (kp.trans (k8.mono (by simp))).trans (Keep.at (by simp)), upd_same⟩⟩
    · rw [List.take_add_one, hj, List.map_append]; rfl
    · exact (List.getElem?_eq_some_iff.mp hj).1
  · rintro ys τ H7 ⟨v, rfl, rfl, _, kp, h7⟩
    rw [List.length_map, las, List.take_length] at h7
    have k7 : Keep [] H6 H7 := kp.drop hacc
    refine ⟨_, rfl, acc, p6, _, rfl, rfl, h7, k7 _ _ (by simp) eD, rfl, _, rfl, ifF rfl ?_⟩
    have E7 := Exs.keep k7 ED
    have e7 := k7 _ _ (by simp) e5
    refine ⟨_, rfl, p5, rfl, ⟨_, .of e7⟩, fun acc2 hacc2 => ?_⟩
    refine lc_list0 (its := as.map V.ref) (by rw [List.length_map, las]; decide) (fun i ys τ H8 => ∃ v : Option V, τ = [v] ∧ ys = (List.replicate i true).map V.bl ∧ i ≤ ids.length ∧ Keep [acc2] H7 H8 ∧ H8 acc2 = some (.lst ys)) ?_ ?_ ?_ ?_
    · exact ⟨_, rfl, rfl, Nat.zero_le _, Keep.at (by simp), upd_same⟩
    · rintro i ys τ H8 ⟨v, rfl, rfl, hi, kp, h8⟩
      refine ⟨h8, by simp, .of (kp _ _ (by simp only [List.mem_singleton]; exact ne_of_none e7 hacc2) e7)⟩
    · rintro i ys τ H8 x hx ⟨v, rfl, rfl, hi, kp2, h8⟩
      rw [List.getElem?_map] at hx
      obtain ⟨a, ha, rfl⟩ := Option.map_eq_some_iff.mp hx
      obtain ⟨j, hj, hE⟩ := paired_get E7 i a ha
      have hE8 := kp2 _ _ (by simp only [List.mem_singleton]; exact ne_of_none hE hacc2) hE
      have hj12 := small j (List.mem_of_getElem? hj)
      refine ⟨_, rfl, a, cs j, _, rfl, hE8, kn.ke j hj12, kT j hj12, h8, _, rfl, ?_, (List.getElem?_eq_some_iff.mp hj).1, kp2.trans (Keep.at (by simp)), upd_same⟩
      rw [List.replicate_succ', List.map_append]; rfl
    · rintro ys τ H8 ⟨v, rfl, rfl, _, kp2, h8⟩
      refine ⟨acc2, _, rfl, .of h8, ?_⟩
      have ea : (List.replicate (as.map V.ref).length true).all id = true := by simp
      rw [ea]
      exact q _ ((kall.trans k7).trans (kp2.drop hacc2))
end
end K11

set_option Elab.async false
set_option linter.all false
set_option maxRecDepth 100000
set_option maxHeartbeats 4000000
namespace K11
open PySem L2
noncomputable abbrev sOdd : Stmt := top 28
theorem scOdd : FnScope ["_law_source", "_law_name", "_law_way", "_law_some", "_law_signs", "_law_at"] ["_law_source", "_law_name"] (defScope sOdd) := ⟨rfl, rfl, rfl, by decide +kernel, rfl, by decide +kernel, by decide +kernel⟩
noncomputable def signs : Str := " !\"#$&'()*+,-./0123456789:;<=>?@ABCDEFGHIJKLMNOPQRSTUVWXYZ[\\]^_`{|}~\n"
theorem signs_no : ∀ c ∈ signs.cps.toList, letterB c = false := by decide +kernel
theorem name_no {z : Str} {c : Nat} (h : c ∈ z.cps.toList) (hb : letterB c = false) : nameS z = false := by
  unfold nameS
  have e : z.cps.toList.all letterB = false := by
    rw [List.all_eq_false]
    exact ⟨c, h, by rw [hb]; simp⟩
  rw [e, Bool.and_false]
theorem name_long {z : Str} (h : 9 ≤ z.length) : nameS z = false := by
  unfold nameS
  rw [decide_eq_false (by omega : ¬ z.length ≤ 8)]
  simp
theorem mem_mid (x y : Str) (c : Nat) : c ∈ ((x ++ (⟨#[c]⟩ : Str)) ++ y).cps.toList := by
  have e : ((x ++ (⟨#[c]⟩ : Str)) ++ y).cps = (x.cps ++ #[c]) ++ y.cps := rfl
  rw [e]
  simp
/-- a thing that is no name, and not None -/
structure Odd (K : PySem.W.Frag) (H : Hp) (x : V) : Prop where
  pt : ∃ T, PlainT K H x T
  nn : x ≠ .non
  nm : nameV x = false
  sz : ∀ z, x = .str z → z.length ≤ 1000
section
variable {P : Program} {w : World} {K : PySem.W.Frag} {mg : Str → Option Value} {base : Heap} {C : Addr}
theorem Odd.str {H : Hp} {z : Str} (h : nameS z = false) (hl : z.length ≤ 1000) : Odd K H (.str z) := ⟨⟨_, .str z⟩, nofun, h, fun s e => by cases e; exact hl⟩
noncomputable def spOdd (K : PySem.W.Frag) : Sp := fun vs H Q _ => ∃ (p : Addr) (z : Str), vs = [.ref p, .str z] ∧ Src H p ∧ GoodN z ∧ ∀ (x : V) (H' : Hp), Odd K H' x → Keep [p] H H' → Q x H'
theorem okOdd (G : FunG K mg "_law_odd" sOdd ["_law_source", "_law_name"]) (CN : Cal P w K mg base CX0 2 "_law_next" ["_law_source", "_law_many"] spNext) (b_len : Blt mg "len") : Cal P w K mg base CX0 3 "_law_odd" ["_law_source", "_law_name"] (spOdd K) := by
  refine G.ok scOdd (fun vs H Q E h => by obtain ⟨p, z, rfl, _⟩ := h; rfl) (fun f cdv A outer s0 H vs Q E hr h => ?_)
  obtain ⟨p, z, rfl, ⟨a, b, c, hp⟩, ⟨hn, hz8⟩, q⟩ := h
  have hr2 : Room 2 _ := hr
  have hz1 : 1 ≤ z.length := by
    unfold nameS at hn
    simp only [Bool.and_eq_true, decide_eq_true_eq] at hn
    exact hn.1.1
  have zs : z.length ≤ sizeLine := by rw [sizeLine_eq]; omega
  refine ⟨_, (pss_cons (ps_set (i := 2) scOdd.nd rfl (Or.inl rfl) (pe_cal CN hr2 (pa_cons (pv 0) (pa_cons pe_int pa_nil))))
      (@pss_cons _ _ _ _ _ (@ps_setL _ _ _ 3 _ _ _ _ scOdd.nd rfl (Or.inl rfl) (Or.inl rfl) (@pa_run _ _ _ 10 [.str "", .str "ninesigns", .str "Gate", .str "a1", .str "a b", .str "-", .int 7, .int 0, .bl true, .bl false] (.cons .str (.cons .str (.cons .str (.cons .str (.cons .str (.cons .str (.cons .int (.cons .int (.cons .bl (.cons .bl .nil)))))))))) (pa_cons (pe_lst (pa_cons pe_str pa_nil)) (pa_cons (pe_tup (pa_cons pe_str (pa_cons pe_str pa_nil))) (pa_cons pe_dnewK (pa_cons pe_str (pa_cons pe_str pa_nil)))))))
      (pss_cons (ps_set (i := 4) scOdd.nd rfl (Or.inl rfl) pe_str)
      (pss_cons (ps_if (pt_cmpR op_eq (pv 2) pe_int (nomark _)) (pss_cons (ps_set (i := 5) scOdd.nd rfl (Or.inl rfl) (pe_cal CN hr2 (pa_cons (pv 0) (pa_cons (pe_blt call_len b_len bo_len (pa_cons (pv 1) pa_nil)) pa_nil))))
      (pss_one (ps_ret (pe_op op_add_str (pe_op op_add_str (pe_slice sl_str (pv 1) po_none (po_some (pv 5))) (pe_ix ix_str (pv 4) (pe_cal CN hr2 (pa_cons (pv 0) (pa_cons (pe_blt call_len b_len bo_len (pa_cons (pv 4) pa_nil)) pa_nil))) (fun _ _ => rfl))) (pe_slice sl_str (pv 1) (po_some (pe_op op_add (pv 5) pe_int)) po_none))))) pss_nil)
      (pss_cons (ps_if (pt_cmpR op_eq (pv 2) pe_int (nomark _)) (pss_one (ps_ret (pe_slice sl_str (pe_op op_mulS (pv 1) pe_int) po_none (po_some (pe_op op_add pe_int (pe_cal CN hr2 (pa_cons (pv 0) (pa_cons pe_int pa_nil)))))))) pss_nil)
      (pss_one (ps_ret (pe_ix ix_lstH (pv 3) (pe_cal CN hr2 (pa_cons (pv 0) (pa_cons (pe_blt call_len b_len bo_len (pa_cons (pv 3) pa_nil)) pa_nil))) (fun _ _ => rfl))))))))), ?_⟩
  refine ⟨_, rfl, p, a, b, c, 4, rfl, hp, by decide, by decide, fun way a1 c1 w0 w1 => ?_⟩
  have k1 : Keep [p] H (upd H p (.lst [.int a1, .int b, .int c1])) := Keep.at (by simp)
  have s1 : upd H p (.lst [.int a1, .int b, .int c1]) p = some (.lst [.int a1, .int b, .int c1]) := upd_same
  generalize upd H p (.lst [.int a1, .int b, .int c1]) = H1 at k1 s1 ⊢
  refine ⟨by show 1 ≤ sizeLine; decide, fun l1 g1 => ⟨by show 2 ≤ sizeLine; decide, fun t1 g2 => fun d1 g3 => ⟨by show 15 ≤ sizeLine; decide, fun ps g4 => ?_⟩⟩⟩
  have kl := Keep.new (S := []) (o := .lst [.str "a"]) g1
  have kt := Keep.new (S := []) (o := .tup [.str "a", .str "b"]) g2
  have kd := Keep.new (S := []) (o := .dK []) g3
  have o1 : PlainT K (upd (upd (upd H1 l1 (.lst [.str "a"])) t1 (.tup [.str "a", .str "b"])) d1 (.dK [])) (.ref l1) "list" := .lst (kd _ _ (by simp) (kt _ _ (by simp) upd_same))
  have o2 : PlainT K (upd (upd (upd H1 l1 (.lst [.str "a"])) t1 (.tup [.str "a", .str "b"])) d1 (.dK [])) (.ref t1) "tuple" := .tup (kd _ _ (by simp) upd_same)
  have o3 : PlainT K (upd (upd (upd H1 l1 (.lst [.str "a"])) t1 (.tup [.str "a", .str "b"])) d1 (.dK [])) (.ref d1) "dict" := .dK upd_same
  have kk : Keep [] H1 (upd (upd (upd H1 l1 (.lst [.str "a"])) t1 (.tup [.str "a", .str "b"])) d1 (.dK [])) := (kl.trans kt).trans kd
  generalize upd (upd (upd H1 l1 (.lst [.str "a"])) t1 (.tup [.str "a", .str "b"])) d1 (.dK []) = H2 at g4 o1 o2 o3 kk ⊢
  have kp : Keep [] H2 (upd H2 ps (.lst [.str "", .str "ninesigns", .str "Gate", .str "a1", .str "a b", .str "-", .int 7, .int 0, .bl true, .bl false, .ref l1, .ref t1, .ref d1, .str "gate ", .str "\n"])) := Keep.new g4
  have ep : upd H2 ps (.lst [.str "", .str "ninesigns", .str "Gate", .str "a1", .str "a b", .str "-", .int 7, .int 0, .bl true, .bl false, .ref l1, .ref t1, .ref d1, .str "gate ", .str "\n"]) ps = some (.lst [.str "", .str "ninesigns", .str "Gate", .str "a1", .str "a b", .str "-", .int 7, .int 0, .bl true, .bl false, .ref l1, .ref t1, .ref d1, .str "gate ", .str "\n"]) := upd_same
  change tSeq _ _ _ _ (upd H2 ps (.lst [.str "", .str "ninesigns", .str "Gate", .str "a1", .str "a b", .str "-", .int 7, .int 0, .bl true, .bl false, .ref l1, .ref t1, .ref d1, .str "gate ", .str "\n"]))
  generalize upd H2 ps _ = H3 at kp ep ⊢
  have k3 : Keep [] H1 H3 := kk.trans kp
  have s3 := k3 _ _ (by simp) s1
  have kA : Keep [p] H H3 := k1.trans (k3.mono (by simp))
  have ps3 : ps ≠ p := by
    intro e
    rw [e, s3] at ep
    cases ep
  have all : ∀ x ∈ ([.str "", .str "ninesigns", .str "Gate", .str "a1", .str "a b", .str "-", .int 7, .int 0, .bl true, .bl false, .ref l1, .ref t1, .ref d1, .str "gate ", .str "\n"] : List V), ∀ H', Keep [p] H3 H' → l1 ≠ p → t1 ≠ p → d1 ≠ p → Odd K H' x := by
    intro x hx H' kH n1 n2 n3
    have kq : ∀ {y : Addr} {T : String}, PlainT K H2 (.ref y) T → y ≠ p → PlainT K H' (.ref y) T := fun {y T} h ne => by
      have h3 := h.keep kp
      cases h3 with
      | lst e => exact .lst (kH _ _ (by simp [ne]) e)
      | tup e => exact .tup (kH _ _ (by simp [ne]) e)
      | dK e => exact .dK (kH _ _ (by simp [ne]) e)
    simp only [List.mem_cons, List.not_mem_nil, or_false] at hx
    rcases hx with rfl | rfl | rfl | rfl | rfl | rfl | rfl | rfl | rfl | rfl | rfl | rfl | rfl | rfl | rfl
    · exact .str (by decide +kernel) (by decide +kernel)
    · exact .str (by decide +kernel) (by decide +kernel)
    · exact .str (by decide +kernel) (by decide +kernel)
    · exact .str (by decide +kernel) (by decide +kernel)
    · exact .str (by decide +kernel) (by decide +kernel)
    · exact .str (by decide +kernel) (by decide +kernel)
    · exact ⟨⟨_, .int _⟩, nofun, rfl, nofun⟩
    · exact ⟨⟨_, .int _⟩, nofun, rfl, nofun⟩
    · exact ⟨⟨_, .bl _⟩, nofun, rfl, nofun⟩
    · exact ⟨⟨_, .bl _⟩, nofun, rfl, nofun⟩
    · exact ⟨⟨_, kq o1 n1⟩, nofun, rfl, nofun⟩
    · exact ⟨⟨_, kq o2 n2⟩, nofun, rfl, nofun⟩
    · exact ⟨⟨_, kq o3 n3⟩, nofun, rfl, nofun⟩
    · exact .str (by decide +kernel) (by decide +kernel)
    · exact .str (by decide +kernel) (by decide +kernel)
  have n1 : l1 ≠ p := by intro e; rw [e, s1] at g1; cases g1
  have n2 : t1 ≠ p := by
    intro e
    have := kl _ _ (by simp) s1
    rw [e, this] at g2; cases g2
  have n3 : d1 ≠ p := by
    intro e
    have := (kl.trans kt) _ _ (by simp) s1
    rw [e, this] at g3; cases g3
  refine ⟨_, rfl, rfl, _, rfl, ?_⟩
  refine ite2 (fun h1 => ?_) (fun h1 => ?_)
  · refine ⟨_, rfl, _, rfl, _, z.length, rfl, ⟨zs, rfl⟩, p, a1, b, c1, _, rfl, s3, by omega, by omega, fun at_ a2 c2 t0 t1 => ?_⟩
    refine ⟨_, rfl, _, rfl, _, rfl, z, rfl, zs, _, rfl, _, rfl, _, rfl, _, _, rfl, ⟨?_, rfl⟩, p, a2, b, c2, _, rfl, upd_same, ?_, ?_, fun n a4 c4 n0 n1 => ?_⟩
    · decide
    · decide
    · decide
    · rw [upd_upd]
      obtain ⟨ch, hc1, hc2⟩ := atI_in (xs := signs.cps.toList) n0 n1
      have e1 := Txt.slice_le z none (some at_)
      have e2 := Txt.slice_le z (some (at_ + 1)) none
      refine ⟨_, _, ch, rfl, rfl, by decide, hc1, _, _, rfl, rfl, ?_, _, rfl, _, rfl, _, _, rfl, rfl, _, rfl, z, rfl, zs, _, _, rfl, rfl, ?_, ?_⟩
      · rw [sizeLine_eq]
        show _ + 1 ≤ _
        omega
      · rw [len_app, sizeLine_eq]
        show _ + 1 + _ ≤ _
        omega
      · refine q _ _ (.str (name_no (mem_mid _ _ _) (signs_no ch (List.mem_of_getElem? hc2))) ?_) (kA.trans (Keep.at (by simp)))
        rw [len_app, len_app]
        show _ + 1 + _ ≤ _
        omega
  · refine ⟨_, rfl, rfl, _, rfl, ?_⟩
    refine ite2 (fun h2 => ?_) (fun h2 => ?_)
    · refine ⟨_, rfl, z, 9, rfl, rfl, by decide, hz1, by show z.length * 9 ≤ 100000; omega, ?_⟩
      refine ⟨_, rfl, p, a1, b, c1, 3, rfl, s3, by decide, by decide, fun v a2 c2 v0 v1 => ⟨_, _, rfl, rfl, _, rfl, _, rfl, ?_, ?_⟩⟩
      · rw [repS_len, sizeLine_eq]
        show 9 * z.length ≤ _
        omega
      · have e0 := slice_len (repS z 9) (9 + v) (by omega)
        have e1 := repS_len z 9
        have e2 : (9 : Int).toNat * z.length = 9 * z.length := rfl
        refine q _ _ (.str (name_long ?_) ?_) (kA.trans (Keep.at (by simp)))
        · omega
        · omega
    · refine ⟨_, rfl, _, rfl, _, rfl, _, _, rfl, .inl ⟨_, .of ep, rfl⟩, p, a1, b, c1, _, rfl, s3, by show (0 : Int) < 15; decide, by show (15 : Int) < 4611686018427387904; decide, fun v a2 c2 v0 v1 => ?_⟩
      obtain ⟨x, hx1, hx2⟩ := atI_in (xs := ([.str "", .str "ninesigns", .str "Gate", .str "a1", .str "a b", .str "-", .int 7, .int 0, .bl true, .bl false, .ref l1, .ref t1, .ref d1, .str "gate ", .str "\n"] : List V)) v0 v1
      refine ⟨ps, _, _, x, rfl, rfl, by rw [upd_ne ps3]; exact ep, hx1, ?_⟩
      exact q x _ (all x (List.mem_of_getElem? hx2) _ (Keep.at (by simp)) n1 n2 n3) (kA.trans (Keep.at (by simp)))
end
end K11

set_option Elab.async false
set_option linter.all false
set_option maxRecDepth 100000
set_option maxHeartbeats 4000000
namespace K11
open PySem L2
noncomputable abbrev sLaw : Stmt := top 34
theorem scLaw : FnScope ["_law_script", "_law_cell", "_law_source", "_law_name", "_law_arrow", "_law_seat", "_law_turn"] ["_law_script"] (defScope sLaw) := ⟨rfl, rfl, rfl, by decide +kernel, rfl, by decide +kernel, by decide +kernel⟩
section
variable {P : Program} {w : World} {K : PySem.W.Frag} {mg : Str → Option Value} {base : Heap} {C : Addr}
noncomputable def spLaw (K : PySem.W.Frag) : Sp := fun vs H Q _ => ∃ (a : Addr) (ns : List Int), vs = [.ref a] ∧ SqL K H a (ns.map V.int) ∧ ns.length ≤ 63 ∧ ∀ H', Q (.bl true) H'
theorem okLaw {f : Addr} {fd : FuncData} {cs : Nat → Addr} (T : SeatT K C) (G : Fun K "law" "law" sLaw f fd) (CM : Cal P w K mg base CX0 2 "_law_made_of_texts" [] spMade) (CD : Cal P w K mg base CX0 1 "_law_digits" ["_law_cell"] spDigits) (CNa : Cal P w K mg base CX0 3 "_law_names" ["_law_source", "_law_many"] spNames)
    (CT : Cal P w K mg base CX0 2 "_law_told" ["_law_seat"] (spTold C)) (CA : Cal P w K mg base CX0 3 "_law_alike" ["_law_found", "_law_due"] (spAl 3)) (CR : Cal P w K mg base CX0 4 "_law_refusal" ["_law_arrow"] (spRef K)) (CO : Cal P w K mg base CX0 3 "_law_odd" ["_law_source", "_law_name"] (spOdd K))
    (MR : MCal P w K mg base CX0 1 C "row" ["self"] (spRow C)) (MK : MkCal P w K mg base (CXE P w) 2 C "Seat" ["self", "arrow"] (spInitX K C (cs 2))) (b_range : Blt mg "range") : FnOk P w K mg base CX0 5 f fd ["_law_script"] (spLaw K) := by
  refine G.ok scLaw (fun vs H Q E h => by obtain ⟨a, ns, rfl, _⟩ := h; rfl) (fun cdv A outer s H vs Q E hr h => ?_)
  obtain ⟨a, ns, rfl, hS, hlen, k⟩ := h
  have hr1 : Room 1 _ := hr.mono (by decide)
  have hr2 : Room 2 _ := hr.mono (by decide)
  have hr3 : Room 3 _ := hr.mono (by decide)
  have hr4 : Room 4 _ := hr
  refine ⟨_, (pss_cons (ps_if (pt_not (pt_val (pe_cal0 CM hr2))) (pss_one (ps_ret pe_bl)) pss_nil)
      (pss_cons (ps_for PassesOwn.never rfl (pi_list (pe_op op_cat (pe_lst (pa_cons pe_int pa_nil)) (pe_slice sl_list (pv 0) po_none (po_some pe_int)))) (pg_name (i := 1) scLaw.nd rfl (Or.inl rfl)) (pss_cons (ps_set (i := 2) scLaw.nd rfl (Or.inl rfl) (pe_cal CD hr1 (pa_cons (pv 1) pa_nil)))
      (pss_cons (ps_set (i := 3) scLaw.nd rfl (Or.inl rfl) (pe_ix ix_lstH (pe_cal CNa hr3 (pa_cons (pv 2) (pa_cons pe_int pa_nil))) pe_int (fun _ _ => rfl)))
      (pss_cons (ps_for PassesOwn.never rfl (pi_list (pe_lst (pa_cons (pv 3) (pa_cons pe_non pa_nil)))) (pg_name (i := 4) scLaw.nd rfl (Or.inl rfl)) (pss_cons (ps_set (i := 5) scLaw.nd rfl (Or.inl rfl) (pe_mkX MK passes_no hr3 (pa_cons (pv 4) pa_nil)))
      (pss_one (ps_for PassesOwn.never rfl (pi_range1 rfl b_range.no (pa_cons pe_int pa_nil)) (pg_name (i := 6) scLaw.nd rfl (Or.inl rfl)) (pss_cons (ps_if (pt_not (pt_val (pe_cal CA hr3 (pa_cons (pe_cal CT hr2 (pa_cons (pv 5) pa_nil)) (pa_cons (pe_lst (pa_cons (pv 4) (pa_cons (pe_lst pa_nil) (pa_cons pe_non (pa_cons pe_bl pa_nil))))) pa_nil))))) (pss_one (ps_ret pe_bl)) pss_nil)
      (pss_one (ps_expr (pe_bm PySem.F.plainAttrs_list PySem.F.slot_list_append PySem.F.type_list_append mt_append (pe_mth0 MR T.cl hr1 (pv 5)) (pa_cons (pe_tup (pa_cons pe_str (pa_cons (pv 3) pa_nil))) pa_nil)))))))))
      (pss_one (ps_if (pt_cmpR op_ne (pe_cal CR hr4 (pa_cons (pe_cal CO hr3 (pa_cons (pv 2) (pa_cons (pv 3) pa_nil))) pa_nil)) pe_str (nomark _)) (pss_one (ps_ret pe_bl)) pss_nil))))))
      (pss_one (ps_ret pe_bl)))), ?_⟩
  refine ⟨rfl, fun H1 k1 => ⟨_, rfl, ifF rfl ?_⟩⟩
  -- the cells
  refine ⟨by show 1 ≤ sizeLine; decide, fun l0 g0 => ?_⟩
  have kl0 := Keep.new (S := []) (o := .lst [.int 0]) g0
  refine ⟨_, rfl, _, rfl, a, _, rfl, Keep.seq (k1.trans kl0) hS, fun l1 g1 => ?_⟩
  obtain ⟨ms, ems, lms⟩ := cut_ints ns none (some 12)
  rw [ems]
  have kl1 := Keep.new (S := []) (o := .lst (ms.map V.int)) g1
  refine ⟨l0, l1, _, _, rfl, rfl, kl1 _ _ (by simp) upd_same, upd_same, by rw [List.length_map, sizeLine_eq]; show 1 + _ ≤ _; omega, fun pl gp => ?_⟩
  have kpl := Keep.new (S := []) (o := .lst ((0 :: ms).map V.int)) gp
  have epl : upd (upd (upd H1 l0 (.lst [.int 0])) l1 (.lst (ms.map V.int))) pl (.lst ([.int 0] ++ ms.map V.int)) pl = some (.lst ((0 :: ms).map V.int)) := upd_same
  refine ⟨pl, rfl, ⟨_, .of epl⟩, ?_⟩
  generalize upd (upd (upd H1 l0 (.lst [.int 0])) l1 (.lst (ms.map V.int))) pl (.lst ([.int 0] ++ ms.map V.int)) = H2 at epl ⊢
  refine for_list (K := K) (a := pl) (xs := (0 :: ms).map V.int) (fun i σ H' => ∃ (v1 v2 v3 v4 v5 v6 : Option V), σ = [some (.ref a), v1, v2, v3, v4, v5, v6] ∧ H' pl = some (.lst ((0 :: ms).map V.int)))
    ⟨_, _, _, _, _, _, rfl, epl⟩ (fun i σ H' _ ⟨_, _, _, _, _, _, _, e⟩ => .of e) ?_ ?_
  · rintro i y σ H3 hi ⟨v1, v2, v3, v4, v5, v6, rfl, e3⟩
    rw [List.getElem?_map] at hi
    obtain ⟨cell, _, rfl⟩ := Option.map_eq_some_iff.mp hi
    clear hi
    -- the source, the name
    refine ⟨_, rfl, cell, rfl, fun p b c d fp => ?_⟩
    have kp := Keep.new (S := []) (o := .lst [.int b, .int c, .int d]) fp
    have sp : Src (upd H3 p (.lst [.int b, .int c, .int d])) p := ⟨b, c, d, upd_same⟩
    have e4 := kp _ _ (by simp) e3
    generalize upd H3 p (.lst [.int b, .int c, .int d]) = H4 at sp e4 ⊢
    have npl : pl ≠ p := by
      obtain ⟨b', c', d', e⟩ := sp
      intro z
      rw [z] at e3
      rw [e3] at fp; cases fp
    refine ⟨_, rfl, p, 1, rfl, sp, by decide, by decide, fun r zs H5 fr ezs lz gz k5 s5 => ?_⟩
    obtain ⟨z, rfl⟩ : ∃ z, zs = [z] := by
      match zs, lz with
      | [z], _ => exact ⟨z, rfl⟩
    have gz1 := gz z (by simp)
    have e5 := k5 _ _ (by simp [npl]) e4
    refine ⟨r, _, 0, _, rfl, rfl, ezs, atI_nat (j := 0) rfl, ?_⟩
    -- the arrows
    refine ⟨_, rfl, by show 2 ≤ sizeLine; decide, fun la fa => ?_⟩
    have ka := Keep.new (S := []) (o := .lst [.str z, .non]) fa
    have ela : upd H5 la (.lst [.str z, .non]) la = some (.lst [.str z, .non]) := upd_same
    have e6 := ka _ _ (by simp) e5
    have s6 : Src (upd H5 la (.lst [.str z, .non])) p := by
      obtain ⟨b', c', d', e⟩ := s5
      exact ⟨b', c', d', ka _ _ (by simp) e⟩
    refine ⟨la, rfl, ⟨_, .of ela⟩, ?_⟩
    generalize upd H5 la (.lst [.str z, .non]) = H6 at ela e6 s6 ⊢
    refine for_list (K := K) (a := la) (xs := [.str z, .non]) (fun i σ H' => ∃ (v4 v5 v6 : Option V), σ = [some (.ref a), some (.int cell), some (.ref p), some (.str z), v4, v5, v6] ∧ Keep [] H6 H')
      ⟨_, _, _, rfl, Keep.refl _⟩ (fun i σ H' _ ⟨_, _, _, _, kq⟩ => .of (kq _ _ (by simp) ela)) ?_ ?_
    · rintro j x σ H7 hx ⟨v4', v5', v6', rfl, k7⟩
      obtain ⟨ar, rfl, har⟩ : ∃ ar : Option Str, x = optV ar ∧ ∀ s, ar = some s → nameS s = true ∧ s.length ≤ 1000 := by
        have hm := List.mem_of_getElem? hx
        simp only [List.mem_cons, List.not_mem_nil, or_false] at hm
        rcases hm with rfl | rfl
        · exact ⟨some z, rfl, fun s e => by cases e; exact ⟨gz1.1, Nat.le_trans gz1.2 (by decide)⟩⟩
        · exact ⟨none, rfl, fun s e => by cases e⟩
      -- the seat
      refine ⟨_, rfl, fun st dx fst fdx nd => ⟨st, dx, _, rfl, upd_same, .inl ⟨ar, rfl, har, fun wl H8 fwl S8 k8 => ⟨rfl, ?_⟩⟩⟩⟩
      have k68 : Keep [] H6 H8 := by
        have q1 : Keep [] H7 (upd (upd H7 dx (.own st)) st (.ins C dx [])) := (Keep.new fdx).trans (Keep.new (by rw [upd_ne nd.symm]; exact fst))
        have q2 : Keep [st] H7 H8 := (q1.mono (by simp)).trans k8
        exact k7.trans (q2.drop fst)
      refine ⟨2, rfl, by decide, by decide, for_range (fun i σ H' => ∃ (v6 : Option V), σ = [some (.ref a), some (.int cell), some (.ref p), some (.str z), some (optV ar), some (.ref st), v6] ∧ Keep [] H6 H' ∧ SeatAt C H' st wl ⟨ar, [], none, false⟩)
        ⟨_, rfl, k68, S8⟩ ?_ ?_⟩
      · rintro i2 σ H9 _ ⟨v6'', rfl, k9, S9⟩
        refine ⟨_, rfl, st, wl, _, rfl, S9, fun r1 t1 H10 fr1 ft1 er1 R10 k10 => ?_⟩
        refine ⟨_, rfl, Nat.zero_le _, fun le fle => ⟨by show 4 ≤ sizeLine; decide, fun ld fld => ?_⟩⟩
        have q1 := Keep.new (S := []) (o := .lst []) fle
        have q2 := Keep.new (S := []) (o := .lst [optV ar, .ref le, .non, .bl false]) fld
        obtain ⟨ps, ept, hps⟩ := R10
        cases hps
        have w1 := (q1.trans q2) _ _ (by simp) er1
        have w2 := (q1.trans q2) _ _ (by simp) ept
        have w3 : upd (upd H10 le (.lst [])) ld (.lst [optV ar, .ref le, .non, .bl false]) le = some (.lst []) := q2 _ _ (by simp) upd_same
        have w4 : upd (upd H10 le (.lst [])) ld (.lst [optV ar, .ref le, .non, .bl false]) ld = some (.lst [optV ar, .ref le, .non, .bl false]) := upd_same
        have k11 : Keep [] H9 (upd (upd H10 le (.lst [])) ld (.lst [optV ar, .ref le, .non, .bl false])) := k10.trans (q1.trans q2)
        generalize upd (upd H10 le (.lst [])) ld (.lst [optV ar, .ref le, .non, .bl false]) = H11 at w1 w2 w3 w4 k11 ⊢
        have fo : flatV (optV ar) = true := by cases ar <;> rfl
        refine ⟨_, _, rfl, .inr ⟨r1, ld, _, _, rfl, rfl, .inl ⟨w1, w4⟩, .cons (Alk.flat 1 fo) (.cons (.inr ⟨t1, le, [], [], rfl, rfl, .inl ⟨w2, w3⟩, .nil, Nat.zero_le _⟩) (.cons (Alk.flat 1 rfl) (.cons (Alk.flat 1 rfl) .nil))), by show 4 ≤ 2000; decide⟩, fun H12 k12 => ⟨_, rfl, ifF rfl ?_⟩⟩
        have S12 := S9.keep (k11.trans k12)
        obtain ⟨dy, hob⟩ := S12.ob
        refine ⟨_, rfl, st, dy, _, rfl, hob, fl_ro _ _ _ _, st, wl, _, rfl, S12, fun rr H13 frr Rr k13 => ?_⟩
        obtain ⟨ps2, err, hps2⟩ := Rr
        cases hps2
        refine ⟨.inl ⟨rfl, _, .of err⟩, _, rfl, by show 2 ≤ sizeLine; decide, fun tt ft => ?_⟩
        have q3 := Keep.new (S := []) (o := .tup [.str "asker", .str z]) ft
        refine ⟨rr, _, _, rfl, rfl, q3 _ _ (by simp) err, by show 0 < sizeLine; decide, ?_⟩
        have k14 : Keep [] H12 (upd (upd H13 tt (.tup [.str "asker", .str z])) rr (.lst ([] ++ [.ref tt]))) := by
          have : Keep [rr] H12 (upd (upd H13 tt (.tup [.str "asker", .str z])) rr (.lst ([] ++ [.ref tt]))) := ((k13.trans q3).mono (by simp)).trans (Keep.at (by simp))
          exact this.drop frr
        exact ⟨_, rfl, ((k9.trans k11).trans k12).trans k14, S12.keep k14⟩
      · rintro σ H9 ⟨v6'', rfl, k9, _⟩
        exact ⟨_, _, _, rfl, k9⟩
    · rintro σ H7 ⟨v4', v5', v6', rfl, k7⟩
      -- what is refused
      have s7 : Src H7 p := by
        obtain ⟨b', c', d', e⟩ := s6
        exact ⟨b', c', d', k7 _ _ (by simp) e⟩
      have e7 := k7 _ _ (by simp) e6
      refine ⟨_, rfl, _, rfl, p, z, rfl, s7, gz1, fun y H8 oy k8 => ?_⟩
      obtain ⟨Ty, pty⟩ := oy.pt
      refine ⟨y, Ty, rfl, pty, oy.nn, oy.nm, oy.sz, fun H9 k9 => ⟨rfl, _, rfl, ifF rfl ?_⟩⟩
      exact ⟨_, _, _, _, _, _, rfl, k9 _ _ (by simp) (k8 _ _ (by simp [npl]) e7)⟩
  · rintro σ H3 ⟨v1, v2, v3, v4, v5, v6, rfl, e3⟩
    exact k H3
end
end K11

set_option Elab.async false
set_option linter.all false
set_option maxRecDepth 100000
namespace K11
open PySem L2
noncomputable def kO3 (P : Params) : Obj := { cls := Value.type "dict", data := Data.dict #[{ hash := PyData.keyHash P (Str.ofString "__name__"), key := Value.str (Str.ofString "__name__") 165, val := Value.str (Str.ofString "law_treeright_k11_seats_made") 590 }, { hash := PyData.keyHash P (Str.ofString "__doc__"), key := Value.str (Str.ofString "__doc__") 166, val := Value.none }, { hash := PyData.keyHash P (Str.ofString "__package__"), key := Value.str (Str.ofString "__package__") 167, val := Value.none }, { hash := PyData.keyHash P (Str.ofString "__loader__"), key := Value.str (Str.ofString "__loader__") 168, val := Value.builtin "__main__.__loader__#opaque" }, { hash := PyData.keyHash P (Str.ofString "__spec__"), key := Value.str (Str.ofString "__spec__") 169, val := Value.none }, { hash := PyData.keyHash P (Str.ofString "__annotations__"), key := Value.str (Str.ofString "__annotations__") 170, val := Value.ref 6 }, { hash := PyData.keyHash P (Str.ofString "__builtins__"), key := Value.str (Str.ofString "__builtins__") 171, val := Value.ref 4 }, { hash := PyData.keyHash P (Str.ofString "__file__"), key := Value.str (Str.ofString "__file__") 173, val := Value.str (Str.ofString "/claim/cut.py") 172 }, { hash := PyData.keyHash P (Str.ofString "__cached__"), key := Value.str (Str.ofString "__cached__") 174, val := Value.none }, { hash := PyData.keyHash P (Str.ofString "_wall"), key := Value.str (Str.ofString "_wall") 193, val := Value.ref 21 }, { hash := PyData.keyHash P (Str.ofString "TreeError"), key := Value.str (Str.ofString "TreeError") 213, val := Value.ref 31 }, { hash := PyData.keyHash P (Str.ofString "NoTree"), key := Value.str (Str.ofString "NoTree") 229, val := Value.ref 44 }, { hash := PyData.keyHash P (Str.ofString "NoHouse"), key := Value.str (Str.ofString "NoHouse") 245, val := Value.ref 56 }, { hash := PyData.keyHash P (Str.ofString "NoSeat"), key := Value.str (Str.ofString "NoSeat") 261, val := Value.ref 68 }, { hash := PyData.keyHash P (Str.ofString "NoAsker"), key := Value.str (Str.ofString "NoAsker") 277, val := Value.ref 80 }, { hash := PyData.keyHash P (Str.ofString "NoLetter"), key := Value.str (Str.ofString "NoLetter") 293, val := Value.ref 92 }, { hash := PyData.keyHash P (Str.ofString "NoRight"), key := Value.str (Str.ofString "NoRight") 309, val := Value.ref 104 }, { hash := PyData.keyHash P (Str.ofString "NoRow"), key := Value.str (Str.ofString "NoRow") 325, val := Value.ref 116 }, { hash := PyData.keyHash P (Str.ofString "NoTie"), key := Value.str (Str.ofString "NoTie") 341, val := Value.ref 128 }, { hash := PyData.keyHash P (Str.ofString "Down"), key := Value.str (Str.ofString "Down") 357, val := Value.ref 140 }, { hash := PyData.keyHash P (Str.ofString "NoMend"), key := Value.str (Str.ofString "NoMend") 373, val := Value.ref 152 }, { hash := PyData.keyHash P (Str.ofString "NoText"), key := Value.str (Str.ofString "NoText") 398, val := Value.ref 171 }, { hash := PyData.keyHash P (Str.ofString "NoLine"), key := Value.str (Str.ofString "NoLine") 414, val := Value.ref 183 }, { hash := PyData.keyHash P (Str.ofString "LETTERS"), key := Value.str (Str.ofString "LETTERS") 418, val := Value.str (Str.ofString "abcdefghijklmnopqrstuvwxyz") 417 }, { hash := PyData.keyHash P (Str.ofString "LONGEST_NAME"), key := Value.str (Str.ofString "LONGEST_NAME") 420, val := Value.int 8 419 }, { hash := PyData.keyHash P (Str.ofString "is_name"), key := Value.str (Str.ofString "is_name") 426, val := Value.ref 190 }, { hash := PyData.keyHash P (Str.ofString "check_house"), key := Value.str (Str.ofString "check_house") 435, val := Value.ref 197 }, { hash := PyData.keyHash P (Str.ofString "Seat"), key := Value.str (Str.ofString "Seat") 589, val := Value.ref 326 }, { hash := PyData.keyHash P (Str.ofString "_law_cell_at"), key := Value.str (Str.ofString "_law_cell_at") 599, val := Value.ref 337 }, { hash := PyData.keyHash P (Str.ofString "_law_mixed"), key := Value.str (Str.ofString "_law_mixed") 608, val := Value.ref 344 }, { hash := PyData.keyHash P (Str.ofString "_law_digits"), key := Value.str (Str.ofString "_law_digits") 615, val := Value.ref 351 }, { hash := PyData.keyHash P (Str.ofString "_law_next"), key := Value.str (Str.ofString "_law_next") 624, val := Value.ref 358 }, { hash := PyData.keyHash P (Str.ofString "_law_names"), key := Value.str (Str.ofString "_law_names") 630, val := Value.ref 363 }, { hash := PyData.keyHash P (Str.ofString "_law_odd"), key := Value.str (Str.ofString "_law_odd") 642, val := Value.ref 370 }, { hash := PyData.keyHash P (Str.ofString "_law_kinds"), key := Value.str (Str.ofString "_law_kinds") 648, val := Value.ref 375 }, { hash := PyData.keyHash P (Str.ofString "_law_alike"), key := Value.str (Str.ofString "_law_alike") 654, val := Value.ref 380 }, { hash := PyData.keyHash P (Str.ofString "_law_told"), key := Value.str (Str.ofString "_law_told") 661, val := Value.ref 387 }, { hash := PyData.keyHash P (Str.ofString "_law_refusal"), key := Value.str (Str.ofString "_law_refusal") 669, val := Value.ref 394 }, { hash := PyData.keyHash P (Str.ofString "_law_made_of_texts"), key := Value.str (Str.ofString "_law_made_of_texts") 675, val := Value.ref 399 }, { hash := PyData.keyHash P (Str.ofString "law"), key := Value.str (Str.ofString "law") 688, val := Value.ref 406 }] 40 }
noncomputable def kO30 (P : Params) : Obj := { cls := Value.type "dict", data := Data.dict #[{ hash := PyData.keyHash P (Str.ofString "__module__"), key := Value.str (Str.ofString "__module__") 203, val := Value.str (Str.ofString "treeright.errors") 194 }, { hash := PyData.keyHash P (Str.ofString "__firstlineno__"), key := Value.str (Str.ofString "__firstlineno__") 207, val := Value.int 5 206 }, { hash := PyData.keyHash P (Str.ofString "__static_attributes__"), key := Value.str (Str.ofString "__static_attributes__") 208, val := Value.ref 29 }, { hash := PyData.keyHash P (Str.ofString "__weakref__"), key := Value.str (Str.ofString "__weakref__") 210, val := Value.ref 32 }, { hash := PyData.keyHash P (Str.ofString "__doc__"), key := Value.str (Str.ofString "__doc__") 211, val := Value.none }] 3 }
noncomputable def kO31 (P : Params) : Obj := { cls := Value.type "type", data := Data.cls { name := Str.ofString "TreeError", bases := [Value.type "ValueError"], mro := [Value.ref 31, Value.type "ValueError", Value.type "Exception", Value.type "BaseException", Value.type "object"], ns := 30, qualname := Str.ofString "TreeError", subclasses := [Value.ref 44, Value.ref 56, Value.ref 68, Value.ref 80, Value.ref 92, Value.ref 104, Value.ref 116, Value.ref 128, Value.ref 140, Value.ref 152, Value.ref 171, Value.ref 183] }, slots := #[some (Value.ref 22), none, some (Value.str (Str.ofString "TreeError") 196), some (Value.str (Str.ofString "TreeError") 204), some (Value.builtin "ValueError.__new__"), some (Value.bool true)] }
noncomputable def kO43 (P : Params) : Obj := { cls := Value.type "dict", data := Data.dict #[{ hash := PyData.keyHash P (Str.ofString "__module__"), key := Value.str (Str.ofString "__module__") 221, val := Value.str (Str.ofString "treeright.errors") 194 }, { hash := PyData.keyHash P (Str.ofString "__firstlineno__"), key := Value.str (Str.ofString "__firstlineno__") 225, val := Value.int 7 224 }, { hash := PyData.keyHash P (Str.ofString "__static_attributes__"), key := Value.str (Str.ofString "__static_attributes__") 226, val := Value.ref 42 }, { hash := PyData.keyHash P (Str.ofString "__doc__"), key := Value.str (Str.ofString "__doc__") 227, val := Value.none }] 2 }
noncomputable def kO44 (P : Params) : Obj := { cls := Value.type "type", data := Data.cls { name := Str.ofString "NoTree", bases := [Value.ref 31], mro := [Value.ref 44, Value.ref 31, Value.type "ValueError", Value.type "Exception", Value.type "BaseException", Value.type "object"], ns := 43, qualname := Str.ofString "NoTree" }, slots := #[some (Value.ref 35), none, some (Value.str (Str.ofString "NoTree") 214), some (Value.str (Str.ofString "NoTree") 222), some (Value.builtin "ValueError.__new__"), some (Value.bool true)] }
noncomputable def kO55 (P : Params) : Obj := { cls := Value.type "dict", data := Data.dict #[{ hash := PyData.keyHash P (Str.ofString "__module__"), key := Value.str (Str.ofString "__module__") 237, val := Value.str (Str.ofString "treeright.errors") 194 }, { hash := PyData.keyHash P (Str.ofString "__firstlineno__"), key := Value.str (Str.ofString "__firstlineno__") 241, val := Value.int 9 240 }, { hash := PyData.keyHash P (Str.ofString "__static_attributes__"), key := Value.str (Str.ofString "__static_attributes__") 242, val := Value.ref 54 }, { hash := PyData.keyHash P (Str.ofString "__doc__"), key := Value.str (Str.ofString "__doc__") 243, val := Value.none }] 2 }
noncomputable def kO56 (P : Params) : Obj := { cls := Value.type "type", data := Data.cls { name := Str.ofString "NoHouse", bases := [Value.ref 31], mro := [Value.ref 56, Value.ref 31, Value.type "ValueError", Value.type "Exception", Value.type "BaseException", Value.type "object"], ns := 55, qualname := Str.ofString "NoHouse" }, slots := #[some (Value.ref 47), none, some (Value.str (Str.ofString "NoHouse") 230), some (Value.str (Str.ofString "NoHouse") 238), some (Value.builtin "ValueError.__new__"), some (Value.bool true)] }
noncomputable def kO67 (P : Params) : Obj := { cls := Value.type "dict", data := Data.dict #[{ hash := PyData.keyHash P (Str.ofString "__module__"), key := Value.str (Str.ofString "__module__") 253, val := Value.str (Str.ofString "treeright.errors") 194 }, { hash := PyData.keyHash P (Str.ofString "__firstlineno__"), key := Value.str (Str.ofString "__firstlineno__") 257, val := Value.int 11 256 }, { hash := PyData.keyHash P (Str.ofString "__static_attributes__"), key := Value.str (Str.ofString "__static_attributes__") 258, val := Value.ref 66 }, { hash := PyData.keyHash P (Str.ofString "__doc__"), key := Value.str (Str.ofString "__doc__") 259, val := Value.none }] 2 }
noncomputable def kO68 (P : Params) : Obj := { cls := Value.type "type", data := Data.cls { name := Str.ofString "NoSeat", bases := [Value.ref 31], mro := [Value.ref 68, Value.ref 31, Value.type "ValueError", Value.type "Exception", Value.type "BaseException", Value.type "object"], ns := 67, qualname := Str.ofString "NoSeat" }, slots := #[some (Value.ref 59), none, some (Value.str (Str.ofString "NoSeat") 246), some (Value.str (Str.ofString "NoSeat") 254), some (Value.builtin "ValueError.__new__"), some (Value.bool true)] }
noncomputable def kO79 (P : Params) : Obj := { cls := Value.type "dict", data := Data.dict #[{ hash := PyData.keyHash P (Str.ofString "__module__"), key := Value.str (Str.ofString "__module__") 269, val := Value.str (Str.ofString "treeright.errors") 194 }, { hash := PyData.keyHash P (Str.ofString "__firstlineno__"), key := Value.str (Str.ofString "__firstlineno__") 273, val := Value.int 13 272 }, { hash := PyData.keyHash P (Str.ofString "__static_attributes__"), key := Value.str (Str.ofString "__static_attributes__") 274, val := Value.ref 78 }, { hash := PyData.keyHash P (Str.ofString "__doc__"), key := Value.str (Str.ofString "__doc__") 275, val := Value.none }] 2 }
noncomputable def kO80 (P : Params) : Obj := { cls := Value.type "type", data := Data.cls { name := Str.ofString "NoAsker", bases := [Value.ref 31], mro := [Value.ref 80, Value.ref 31, Value.type "ValueError", Value.type "Exception", Value.type "BaseException", Value.type "object"], ns := 79, qualname := Str.ofString "NoAsker" }, slots := #[some (Value.ref 71), none, some (Value.str (Str.ofString "NoAsker") 262), some (Value.str (Str.ofString "NoAsker") 270), some (Value.builtin "ValueError.__new__"), some (Value.bool true)] }
noncomputable def kO91 (P : Params) : Obj := { cls := Value.type "dict", data := Data.dict #[{ hash := PyData.keyHash P (Str.ofString "__module__"), key := Value.str (Str.ofString "__module__") 285, val := Value.str (Str.ofString "treeright.errors") 194 }, { hash := PyData.keyHash P (Str.ofString "__firstlineno__"), key := Value.str (Str.ofString "__firstlineno__") 289, val := Value.int 15 288 }, { hash := PyData.keyHash P (Str.ofString "__static_attributes__"), key := Value.str (Str.ofString "__static_attributes__") 290, val := Value.ref 90 }, { hash := PyData.keyHash P (Str.ofString "__doc__"), key := Value.str (Str.ofString "__doc__") 291, val := Value.none }] 2 }
noncomputable def kO92 (P : Params) : Obj := { cls := Value.type "type", data := Data.cls { name := Str.ofString "NoLetter", bases := [Value.ref 31], mro := [Value.ref 92, Value.ref 31, Value.type "ValueError", Value.type "Exception", Value.type "BaseException", Value.type "object"], ns := 91, qualname := Str.ofString "NoLetter" }, slots := #[some (Value.ref 83), none, some (Value.str (Str.ofString "NoLetter") 278), some (Value.str (Str.ofString "NoLetter") 286), some (Value.builtin "ValueError.__new__"), some (Value.bool true)] }
noncomputable def kO103 (P : Params) : Obj := { cls := Value.type "dict", data := Data.dict #[{ hash := PyData.keyHash P (Str.ofString "__module__"), key := Value.str (Str.ofString "__module__") 301, val := Value.str (Str.ofString "treeright.errors") 194 }, { hash := PyData.keyHash P (Str.ofString "__firstlineno__"), key := Value.str (Str.ofString "__firstlineno__") 305, val := Value.int 17 304 }, { hash := PyData.keyHash P (Str.ofString "__static_attributes__"), key := Value.str (Str.ofString "__static_attributes__") 306, val := Value.ref 102 }, { hash := PyData.keyHash P (Str.ofString "__doc__"), key := Value.str (Str.ofString "__doc__") 307, val := Value.none }] 2 }
noncomputable def kO104 (P : Params) : Obj := { cls := Value.type "type", data := Data.cls { name := Str.ofString "NoRight", bases := [Value.ref 31], mro := [Value.ref 104, Value.ref 31, Value.type "ValueError", Value.type "Exception", Value.type "BaseException", Value.type "object"], ns := 103, qualname := Str.ofString "NoRight" }, slots := #[some (Value.ref 95), none, some (Value.str (Str.ofString "NoRight") 294), some (Value.str (Str.ofString "NoRight") 302), some (Value.builtin "ValueError.__new__"), some (Value.bool true)] }
noncomputable def kO115 (P : Params) : Obj := { cls := Value.type "dict", data := Data.dict #[{ hash := PyData.keyHash P (Str.ofString "__module__"), key := Value.str (Str.ofString "__module__") 317, val := Value.str (Str.ofString "treeright.errors") 194 }, { hash := PyData.keyHash P (Str.ofString "__firstlineno__"), key := Value.str (Str.ofString "__firstlineno__") 321, val := Value.int 19 320 }, { hash := PyData.keyHash P (Str.ofString "__static_attributes__"), key := Value.str (Str.ofString "__static_attributes__") 322, val := Value.ref 114 }, { hash := PyData.keyHash P (Str.ofString "__doc__"), key := Value.str (Str.ofString "__doc__") 323, val := Value.none }] 2 }
noncomputable def kO116 (P : Params) : Obj := { cls := Value.type "type", data := Data.cls { name := Str.ofString "NoRow", bases := [Value.ref 31], mro := [Value.ref 116, Value.ref 31, Value.type "ValueError", Value.type "Exception", Value.type "BaseException", Value.type "object"], ns := 115, qualname := Str.ofString "NoRow" }, slots := #[some (Value.ref 107), none, some (Value.str (Str.ofString "NoRow") 310), some (Value.str (Str.ofString "NoRow") 318), some (Value.builtin "ValueError.__new__"), some (Value.bool true)] }
noncomputable def kO127 (P : Params) : Obj := { cls := Value.type "dict", data := Data.dict #[{ hash := PyData.keyHash P (Str.ofString "__module__"), key := Value.str (Str.ofString "__module__") 333, val := Value.str (Str.ofString "treeright.errors") 194 }, { hash := PyData.keyHash P (Str.ofString "__firstlineno__"), key := Value.str (Str.ofString "__firstlineno__") 337, val := Value.int 21 336 }, { hash := PyData.keyHash P (Str.ofString "__static_attributes__"), key := Value.str (Str.ofString "__static_attributes__") 338, val := Value.ref 126 }, { hash := PyData.keyHash P (Str.ofString "__doc__"), key := Value.str (Str.ofString "__doc__") 339, val := Value.none }] 2 }
noncomputable def kO128 (P : Params) : Obj := { cls := Value.type "type", data := Data.cls { name := Str.ofString "NoTie", bases := [Value.ref 31], mro := [Value.ref 128, Value.ref 31, Value.type "ValueError", Value.type "Exception", Value.type "BaseException", Value.type "object"], ns := 127, qualname := Str.ofString "NoTie" }, slots := #[some (Value.ref 119), none, some (Value.str (Str.ofString "NoTie") 326), some (Value.str (Str.ofString "NoTie") 334), some (Value.builtin "ValueError.__new__"), some (Value.bool true)] }
noncomputable def kO139 (P : Params) : Obj := { cls := Value.type "dict", data := Data.dict #[{ hash := PyData.keyHash P (Str.ofString "__module__"), key := Value.str (Str.ofString "__module__") 349, val := Value.str (Str.ofString "treeright.errors") 194 }, { hash := PyData.keyHash P (Str.ofString "__firstlineno__"), key := Value.str (Str.ofString "__firstlineno__") 353, val := Value.int 23 352 }, { hash := PyData.keyHash P (Str.ofString "__static_attributes__"), key := Value.str (Str.ofString "__static_attributes__") 354, val := Value.ref 138 }, { hash := PyData.keyHash P (Str.ofString "__doc__"), key := Value.str (Str.ofString "__doc__") 355, val := Value.none }] 2 }
noncomputable def kO140 (P : Params) : Obj := { cls := Value.type "type", data := Data.cls { name := Str.ofString "Down", bases := [Value.ref 31], mro := [Value.ref 140, Value.ref 31, Value.type "ValueError", Value.type "Exception", Value.type "BaseException", Value.type "object"], ns := 139, qualname := Str.ofString "Down" }, slots := #[some (Value.ref 131), none, some (Value.str (Str.ofString "Down") 342), some (Value.str (Str.ofString "Down") 350), some (Value.builtin "ValueError.__new__"), some (Value.bool true)] }
noncomputable def kO151 (P : Params) : Obj := { cls := Value.type "dict", data := Data.dict #[{ hash := PyData.keyHash P (Str.ofString "__module__"), key := Value.str (Str.ofString "__module__") 365, val := Value.str (Str.ofString "treeright.errors") 194 }, { hash := PyData.keyHash P (Str.ofString "__firstlineno__"), key := Value.str (Str.ofString "__firstlineno__") 369, val := Value.int 25 368 }, { hash := PyData.keyHash P (Str.ofString "__static_attributes__"), key := Value.str (Str.ofString "__static_attributes__") 370, val := Value.ref 150 }, { hash := PyData.keyHash P (Str.ofString "__doc__"), key := Value.str (Str.ofString "__doc__") 371, val := Value.none }] 2 }
noncomputable def kO152 (P : Params) : Obj := { cls := Value.type "type", data := Data.cls { name := Str.ofString "NoMend", bases := [Value.ref 31], mro := [Value.ref 152, Value.ref 31, Value.type "ValueError", Value.type "Exception", Value.type "BaseException", Value.type "object"], ns := 151, qualname := Str.ofString "NoMend" }, slots := #[some (Value.ref 143), none, some (Value.str (Str.ofString "NoMend") 358), some (Value.str (Str.ofString "NoMend") 366), some (Value.builtin "ValueError.__new__"), some (Value.bool true)] }
noncomputable def kO170 (P : Params) : Obj := { cls := Value.type "dict", data := Data.dict #[{ hash := PyData.keyHash P (Str.ofString "__module__"), key := Value.str (Str.ofString "__module__") 381, val := Value.str (Str.ofString "treeright.errors") 194 }, { hash := PyData.keyHash P (Str.ofString "__firstlineno__"), key := Value.str (Str.ofString "__firstlineno__") 385, val := Value.int 27 384 }, { hash := PyData.keyHash P (Str.ofString "__init__"), key := Value.str (Str.ofString "__init__") 393, val := Value.ref 168 }, { hash := PyData.keyHash P (Str.ofString "__static_attributes__"), key := Value.str (Str.ofString "__static_attributes__") 395, val := Value.ref 169 }, { hash := PyData.keyHash P (Str.ofString "__doc__"), key := Value.str (Str.ofString "__doc__") 396, val := Value.none }] 2 }
noncomputable def kO171 (P : Params) : Obj := { cls := Value.type "type", data := Data.cls { name := Str.ofString "NoText", bases := [Value.ref 31], mro := [Value.ref 171, Value.ref 31, Value.type "ValueError", Value.type "Exception", Value.type "BaseException", Value.type "object"], ns := 170, qualname := Str.ofString "NoText" }, slots := #[some (Value.ref 155), none, some (Value.str (Str.ofString "NoText") 374), some (Value.str (Str.ofString "NoText") 382), some (Value.builtin "ValueError.__new__"), some (Value.bool true)] }
noncomputable def kO182 (P : Params) : Obj := { cls := Value.type "dict", data := Data.dict #[{ hash := PyData.keyHash P (Str.ofString "__module__"), key := Value.str (Str.ofString "__module__") 406, val := Value.str (Str.ofString "treeright.errors") 194 }, { hash := PyData.keyHash P (Str.ofString "__firstlineno__"), key := Value.str (Str.ofString "__firstlineno__") 410, val := Value.int 32 409 }, { hash := PyData.keyHash P (Str.ofString "__static_attributes__"), key := Value.str (Str.ofString "__static_attributes__") 411, val := Value.ref 181 }, { hash := PyData.keyHash P (Str.ofString "__doc__"), key := Value.str (Str.ofString "__doc__") 412, val := Value.none }] 2 }
noncomputable def kO183 (P : Params) : Obj := { cls := Value.type "type", data := Data.cls { name := Str.ofString "NoLine", bases := [Value.ref 31], mro := [Value.ref 183, Value.ref 31, Value.type "ValueError", Value.type "Exception", Value.type "BaseException", Value.type "object"], ns := 182, qualname := Str.ofString "NoLine" }, slots := #[some (Value.ref 174), none, some (Value.str (Str.ofString "NoLine") 399), some (Value.str (Str.ofString "NoLine") 407), some (Value.builtin "ValueError.__new__"), some (Value.bool true)] }
noncomputable def kO189 (P : Params) : Obj := { cls := Value.type "code", data := Data.fields #[Value.str (Str.ofString "is_name") 421, Value.str (Str.ofString "is_name") 422, Value.str (Str.ofString "/claim/cut.py") 423, Value.int 37 0, Value.int 1 0, Value.int 0 0, Value.int 0 0, Value.int 3 0, Value.ref 186, Value.bool true, Value.int 181 0, Value.ref 187, Value.none, Value.none, Value.none, Value.ref 188, Value.int 424 0, Value.int 37 0, Value.str (Str.ofString "/claim/cut.py") 425] }
noncomputable def kO190 (P : Params) : Obj := { cls := Value.type "function", data := Data.func (W.fnOf "is_name" "is_name" (defArgs sName) (defBody sName) (defScope sName) (Value.none) (Value.none) (Value.none) (Value.str (Str.ofString "treeright.trees") 415) none (Value.ref 189) (Value.none)) }
noncomputable def kO210 (P : Params) : Obj := { cls := Value.type "code", data := Data.fields #[Value.str (Str.ofString "__init__") 448, Value.str (Str.ofString "Seat.__init__") 449, Value.str (Str.ofString "/claim/cut.py") 450, Value.int 47 0, Value.int 2 0, Value.int 0 0, Value.int 0 0, Value.int 3 0, Value.ref 205, Value.bool true, Value.int 181 0, Value.ref 206, Value.none, Value.ref 207, Value.ref 208, Value.ref 209, Value.int 453 0, Value.int 47 0, Value.str (Str.ofString "/claim/cut.py") 454] }
noncomputable def kO211 (P : Params) : Obj := { cls := Value.type "function", data := Data.func (W.fnOf "__init__" "Seat.__init__" (defArgs sInit) (defBody sInit) (defScope sInit) (Value.none) (Value.none) (Value.none) (Value.str (Str.ofString "treeright.seats") 427) none (Value.ref 210) (Value.none)) }
noncomputable def kO217 (P : Params) : Obj := { cls := Value.type "code", data := Data.fields #[Value.str (Str.ofString "arrow") 456, Value.str (Str.ofString "Seat.arrow") 457, Value.str (Str.ofString "/claim/cut.py") 458, Value.int 55 0, Value.int 1 0, Value.int 0 0, Value.int 0 0, Value.int 3 0, Value.ref 212, Value.bool true, Value.int 181 0, Value.ref 213, Value.none, Value.ref 214, Value.ref 215, Value.ref 216, Value.int 460 0, Value.int 55 0, Value.str (Str.ofString "/claim/cut.py") 461] }
noncomputable def kO218 (P : Params) : Obj := { cls := Value.type "function", data := Data.func (W.fnOf "arrow" "Seat.arrow" (defArgs sArrow) (defBody sArrow) (defScope sArrow) (Value.none) (Value.none) (Value.none) (Value.str (Str.ofString "treeright.seats") 427) none (Value.ref 217) (Value.none)) }
noncomputable def kO224 (P : Params) : Obj := { cls := Value.type "code", data := Data.fields #[Value.str (Str.ofString "row") 463, Value.str (Str.ofString "Seat.row") 464, Value.str (Str.ofString "/claim/cut.py") 465, Value.int 58 0, Value.int 1 0, Value.int 0 0, Value.int 0 0, Value.int 3 0, Value.ref 219, Value.bool true, Value.int 181 0, Value.ref 220, Value.none, Value.ref 221, Value.ref 222, Value.ref 223, Value.int 467 0, Value.int 58 0, Value.str (Str.ofString "/claim/cut.py") 468] }
noncomputable def kO225 (P : Params) : Obj := { cls := Value.type "function", data := Data.func (W.fnOf "row" "Seat.row" (defArgs sRow) (defBody sRow) (defScope sRow) (Value.none) (Value.none) (Value.none) (Value.str (Str.ofString "treeright.seats") 427) none (Value.ref 224) (Value.none)) }
noncomputable def kO231 (P : Params) : Obj := { cls := Value.type "code", data := Data.fields #[Value.str (Str.ofString "inside") 470, Value.str (Str.ofString "Seat.inside") 471, Value.str (Str.ofString "/claim/cut.py") 472, Value.int 61 0, Value.int 1 0, Value.int 0 0, Value.int 0 0, Value.int 3 0, Value.ref 226, Value.bool true, Value.int 181 0, Value.ref 227, Value.none, Value.ref 228, Value.ref 229, Value.ref 230, Value.int 474 0, Value.int 61 0, Value.str (Str.ofString "/claim/cut.py") 475] }
noncomputable def kO232 (P : Params) : Obj := { cls := Value.type "function", data := Data.func (W.fnOf "inside" "Seat.inside" (defArgs sInside) (defBody sInside) (defScope sInside) (Value.none) (Value.none) (Value.none) (Value.str (Str.ofString "treeright.seats") 427) none (Value.ref 231) (Value.none)) }
noncomputable def kO238 (P : Params) : Obj := { cls := Value.type "code", data := Data.fields #[Value.str (Str.ofString "has_asked") 477, Value.str (Str.ofString "Seat.has_asked") 478, Value.str (Str.ofString "/claim/cut.py") 479, Value.int 64 0, Value.int 1 0, Value.int 0 0, Value.int 0 0, Value.int 3 0, Value.ref 233, Value.bool true, Value.int 181 0, Value.ref 234, Value.none, Value.ref 235, Value.ref 236, Value.ref 237, Value.int 481 0, Value.int 64 0, Value.str (Str.ofString "/claim/cut.py") 482] }
noncomputable def kO239 (P : Params) : Obj := { cls := Value.type "function", data := Data.func (W.fnOf "has_asked" "Seat.has_asked" (defArgs sHas) (defBody sHas) (defScope sHas) (Value.none) (Value.none) (Value.none) (Value.str (Str.ofString "treeright.seats") 427) none (Value.ref 238) (Value.none)) }
noncomputable def kO325 (P : Params) : Obj := { cls := Value.type "dict", data := Data.dict #[{ hash := PyData.keyHash P (Str.ofString "__module__"), key := Value.str (Str.ofString "__module__") 443, val := Value.str (Str.ofString "treeright.seats") 427 }, { hash := PyData.keyHash P (Str.ofString "__firstlineno__"), key := Value.str (Str.ofString "__firstlineno__") 447, val := Value.int 45 446 }, { hash := PyData.keyHash P (Str.ofString "__init__"), key := Value.str (Str.ofString "__init__") 455, val := Value.ref 211 }, { hash := PyData.keyHash P (Str.ofString "arrow"), key := Value.str (Str.ofString "arrow") 462, val := Value.ref 218 }, { hash := PyData.keyHash P (Str.ofString "row"), key := Value.str (Str.ofString "row") 469, val := Value.ref 225 }, { hash := PyData.keyHash P (Str.ofString "inside"), key := Value.str (Str.ofString "inside") 476, val := Value.ref 232 }, { hash := PyData.keyHash P (Str.ofString "has_asked"), key := Value.str (Str.ofString "has_asked") 483, val := Value.ref 239 }, { hash := PyData.keyHash P (Str.ofString "askers"), key := Value.str (Str.ofString "askers") 490, val := Value.ref 246 }, { hash := PyData.keyHash P (Str.ofString "crowd"), key := Value.str (Str.ofString "crowd") 497, val := Value.ref 253 }, { hash := PyData.keyHash P (Str.ofString "twin"), key := Value.str (Str.ofString "twin") 504, val := Value.ref 260 }, { hash := PyData.keyHash P (Str.ofString "state"), key := Value.str (Str.ofString "state") 511, val := Value.ref 267 }, { hash := PyData.keyHash P (Str.ofString "settle"), key := Value.str (Str.ofString "settle") 519, val := Value.ref 274 }, { hash := PyData.keyHash P (Str.ofString "want"), key := Value.str (Str.ofString "want") 527, val := Value.ref 281 }, { hash := PyData.keyHash P (Str.ofString "leave"), key := Value.str (Str.ofString "leave") 535, val := Value.ref 288 }, { hash := PyData.keyHash P (Str.ofString "done"), key := Value.str (Str.ofString "done") 543, val := Value.ref 295 }, { hash := PyData.keyHash P (Str.ofString "ask"), key := Value.str (Str.ofString "ask") 551, val := Value.ref 302 }, { hash := PyData.keyHash P (Str.ofString "come"), key := Value.str (Str.ofString "come") 560, val := Value.ref 309 }, { hash := PyData.keyHash P (Str.ofString "move_on"), key := Value.str (Str.ofString "move_on") 567, val := Value.ref 316 }, { hash := PyData.keyHash P (Str.ofString "serve_first"), key := Value.str (Str.ofString "serve_first") 577, val := Value.ref 323 }, { hash := PyData.keyHash P (Str.ofString "__static_attributes__"), key := Value.str (Str.ofString "__static_attributes__") 582, val := Value.ref 324 }, { hash := PyData.keyHash P (Str.ofString "__dict__"), key := Value.str (Str.ofString "__dict__") 584, val := Value.ref 327 }, { hash := PyData.keyHash P (Str.ofString "__weakref__"), key := Value.str (Str.ofString "__weakref__") 586, val := Value.ref 328 }, { hash := PyData.keyHash P (Str.ofString "__doc__"), key := Value.str (Str.ofString "__doc__") 587, val := Value.none }] 4 }
noncomputable def kO326 (P : Params) : Obj := { cls := Value.type "type", data := Data.cls { name := Str.ofString "Seat", bases := [Value.type "object"], mro := [Value.ref 326, Value.type "object"], ns := 325, qualname := Str.ofString "Seat" }, slots := #[none, none, some (Value.str (Str.ofString "Seat") 436), some (Value.str (Str.ofString "Seat") 444), some (Value.builtin "object.__new__"), some (Value.bool true)] }
noncomputable def kO343 (P : Params) : Obj := { cls := Value.type "code", data := Data.fields #[Value.str (Str.ofString "_law_mixed") 600, Value.str (Str.ofString "_law_mixed") 601, Value.str (Str.ofString "/claim/cut.py") 602, Value.int 136 0, Value.int 2 0, Value.int 0 0, Value.int 0 0, Value.int 3 0, Value.ref 338, Value.bool true, Value.int 181 0, Value.ref 339, Value.none, Value.ref 340, Value.ref 341, Value.ref 342, Value.int 606 0, Value.int 136 0, Value.str (Str.ofString "/claim/cut.py") 607] }
noncomputable def kO344 (P : Params) : Obj := { cls := Value.type "function", data := Data.func (W.fnOf "_law_mixed" "_law_mixed" (defArgs sMixed) (defBody sMixed) (defScope sMixed) (Value.none) (Value.none) (Value.none) (Value.str (Str.ofString "law_treeright_k11_seats_made") 590) none (Value.ref 343) (Value.none)) }
noncomputable def kO350 (P : Params) : Obj := { cls := Value.type "code", data := Data.fields #[Value.str (Str.ofString "_law_digits") 609, Value.str (Str.ofString "_law_digits") 610, Value.str (Str.ofString "/claim/cut.py") 611, Value.int 141 0, Value.int 1 0, Value.int 0 0, Value.int 0 0, Value.int 3 0, Value.ref 345, Value.bool true, Value.int 181 0, Value.ref 346, Value.none, Value.ref 347, Value.ref 348, Value.ref 349, Value.int 613 0, Value.int 141 0, Value.str (Str.ofString "/claim/cut.py") 614] }
noncomputable def kO351 (P : Params) : Obj := { cls := Value.type "function", data := Data.func (W.fnOf "_law_digits" "_law_digits" (defArgs sDigits) (defBody sDigits) (defScope sDigits) (Value.none) (Value.none) (Value.none) (Value.str (Str.ofString "law_treeright_k11_seats_made") 590) none (Value.ref 350) (Value.none)) }
noncomputable def kO357 (P : Params) : Obj := { cls := Value.type "code", data := Data.fields #[Value.str (Str.ofString "_law_next") 616, Value.str (Str.ofString "_law_next") 617, Value.str (Str.ofString "/claim/cut.py") 618, Value.int 143 0, Value.int 2 0, Value.int 0 0, Value.int 0 0, Value.int 3 0, Value.ref 352, Value.bool true, Value.int 181 0, Value.ref 353, Value.none, Value.ref 354, Value.ref 355, Value.ref 356, Value.int 622 0, Value.int 143 0, Value.str (Str.ofString "/claim/cut.py") 623] }
noncomputable def kO358 (P : Params) : Obj := { cls := Value.type "function", data := Data.func (W.fnOf "_law_next" "_law_next" (defArgs sNext) (defBody sNext) (defScope sNext) (Value.none) (Value.none) (Value.none) (Value.str (Str.ofString "law_treeright_k11_seats_made") 590) none (Value.ref 357) (Value.none)) }
noncomputable def kO362 (P : Params) : Obj := { cls := Value.type "code", data := Data.fields #[Value.str (Str.ofString "_law_names") 625, Value.str (Str.ofString "_law_names") 626, Value.str (Str.ofString "/claim/cut.py") 627, Value.int 150 0, Value.int 2 0, Value.int 0 0, Value.int 0 0, Value.int 3 0, Value.ref 359, Value.bool true, Value.int 181 0, Value.ref 360, Value.none, Value.none, Value.none, Value.ref 361, Value.int 628 0, Value.int 150 0, Value.str (Str.ofString "/claim/cut.py") 629] }
noncomputable def kO363 (P : Params) : Obj := { cls := Value.type "function", data := Data.func (W.fnOf "_law_names" "_law_names" (defArgs sNames) (defBody sNames) (defScope sNames) (Value.none) (Value.none) (Value.none) (Value.str (Str.ofString "law_treeright_k11_seats_made") 590) none (Value.ref 362) (Value.none)) }
noncomputable def kO369 (P : Params) : Obj := { cls := Value.type "code", data := Data.fields #[Value.str (Str.ofString "_law_odd") 631, Value.str (Str.ofString "_law_odd") 632, Value.str (Str.ofString "/claim/cut.py") 633, Value.int 155 0, Value.int 2 0, Value.int 0 0, Value.int 0 0, Value.int 3 0, Value.ref 364, Value.bool true, Value.int 181 0, Value.ref 365, Value.none, Value.ref 366, Value.ref 367, Value.ref 368, Value.int 640 0, Value.int 155 0, Value.str (Str.ofString "/claim/cut.py") 641] }
noncomputable def kO370 (P : Params) : Obj := { cls := Value.type "function", data := Data.func (W.fnOf "_law_odd" "_law_odd" (defArgs sOdd) (defBody sOdd) (defScope sOdd) (Value.none) (Value.none) (Value.none) (Value.str (Str.ofString "law_treeright_k11_seats_made") 590) none (Value.ref 369) (Value.none)) }
noncomputable def kO374 (P : Params) : Obj := { cls := Value.type "code", data := Data.fields #[Value.str (Str.ofString "_law_kinds") 643, Value.str (Str.ofString "_law_kinds") 644, Value.str (Str.ofString "/claim/cut.py") 645, Value.int 165 0, Value.int 1 0, Value.int 0 0, Value.int 0 0, Value.int 3 0, Value.ref 371, Value.bool true, Value.int 181 0, Value.ref 372, Value.none, Value.none, Value.none, Value.ref 373, Value.int 646 0, Value.int 165 0, Value.str (Str.ofString "/claim/cut.py") 647] }
noncomputable def kO375 (P : Params) : Obj := { cls := Value.type "function", data := Data.func (W.fnOf "_law_kinds" "_law_kinds" (defArgs sKinds) (defBody sKinds) (defScope sKinds) (Value.none) (Value.none) (Value.none) (Value.str (Str.ofString "law_treeright_k11_seats_made") 590) none (Value.ref 374) (Value.none)) }
noncomputable def kO379 (P : Params) : Obj := { cls := Value.type "code", data := Data.fields #[Value.str (Str.ofString "_law_alike") 649, Value.str (Str.ofString "_law_alike") 650, Value.str (Str.ofString "/claim/cut.py") 651, Value.int 174 0, Value.int 2 0, Value.int 0 0, Value.int 0 0, Value.int 3 0, Value.ref 376, Value.bool true, Value.int 181 0, Value.ref 377, Value.none, Value.none, Value.none, Value.ref 378, Value.int 652 0, Value.int 174 0, Value.str (Str.ofString "/claim/cut.py") 653] }
noncomputable def kO380 (P : Params) : Obj := { cls := Value.type "function", data := Data.func (W.fnOf "_law_alike" "_law_alike" (defArgs sAlike) (defBody sAlike) (defScope sAlike) (Value.none) (Value.none) (Value.none) (Value.str (Str.ofString "law_treeright_k11_seats_made") 590) none (Value.ref 379) (Value.none)) }
noncomputable def kO386 (P : Params) : Obj := { cls := Value.type "code", data := Data.fields #[Value.str (Str.ofString "_law_told") 655, Value.str (Str.ofString "_law_told") 656, Value.str (Str.ofString "/claim/cut.py") 657, Value.int 182 0, Value.int 1 0, Value.int 0 0, Value.int 0 0, Value.int 3 0, Value.ref 381, Value.bool true, Value.int 181 0, Value.ref 382, Value.none, Value.ref 383, Value.ref 384, Value.ref 385, Value.int 659 0, Value.int 182 0, Value.str (Str.ofString "/claim/cut.py") 660] }
noncomputable def kO387 (P : Params) : Obj := { cls := Value.type "function", data := Data.func (W.fnOf "_law_told" "_law_told" (defArgs sTold) (defBody sTold) (defScope sTold) (Value.none) (Value.none) (Value.none) (Value.str (Str.ofString "law_treeright_k11_seats_made") 590) none (Value.ref 386) (Value.none)) }
noncomputable def kO393 (P : Params) : Obj := { cls := Value.type "code", data := Data.fields #[Value.str (Str.ofString "_law_refusal") 662, Value.str (Str.ofString "_law_refusal") 663, Value.str (Str.ofString "/claim/cut.py") 664, Value.int 184 0, Value.int 1 0, Value.int 0 0, Value.int 0 0, Value.int 3 0, Value.ref 388, Value.bool true, Value.int 181 0, Value.ref 389, Value.none, Value.ref 390, Value.ref 391, Value.ref 392, Value.int 667 0, Value.int 184 0, Value.str (Str.ofString "/claim/cut.py") 668] }
noncomputable def kO394 (P : Params) : Obj := { cls := Value.type "function", data := Data.func (W.fnOf "_law_refusal" "_law_refusal" (defArgs sRef) (defBody sRef) (defScope sRef) (Value.none) (Value.none) (Value.none) (Value.str (Str.ofString "law_treeright_k11_seats_made") 590) none (Value.ref 393) (Value.none)) }
noncomputable def kO398 (P : Params) : Obj := { cls := Value.type "code", data := Data.fields #[Value.str (Str.ofString "_law_made_of_texts") 670, Value.str (Str.ofString "_law_made_of_texts") 671, Value.str (Str.ofString "/claim/cut.py") 672, Value.int 190 0, Value.int 0 0, Value.int 0 0, Value.int 0 0, Value.int 3 0, Value.ref 395, Value.bool true, Value.int 181 0, Value.ref 396, Value.none, Value.none, Value.none, Value.ref 397, Value.int 673 0, Value.int 190 0, Value.str (Str.ofString "/claim/cut.py") 674] }
noncomputable def kO399 (P : Params) : Obj := { cls := Value.type "function", data := Data.func (W.fnOf "_law_made_of_texts" "_law_made_of_texts" (defArgs sMade) (defBody sMade) (defScope sMade) (Value.none) (Value.none) (Value.none) (Value.str (Str.ofString "law_treeright_k11_seats_made") 590) none (Value.ref 398) (Value.none)) }
noncomputable def kO405 (P : Params) : Obj := { cls := Value.type "code", data := Data.fields #[Value.str (Str.ofString "law") 676, Value.str (Str.ofString "law") 677, Value.str (Str.ofString "/claim/cut.py") 678, Value.int 198 0, Value.int 1 0, Value.int 0 0, Value.int 0 0, Value.int 3 0, Value.ref 400, Value.bool true, Value.int 181 0, Value.ref 401, Value.none, Value.ref 402, Value.ref 403, Value.ref 404, Value.int 686 0, Value.int 198 0, Value.str (Str.ofString "/claim/cut.py") 687] }
noncomputable def kO406 (P : Params) : Obj := { cls := Value.type "function", data := Data.func (W.fnOf "law" "law" (defArgs sLaw) (defBody sLaw) (defScope sLaw) (Value.none) (Value.none) (Value.none) (Value.str (Str.ofString "law_treeright_k11_seats_made") 590) none (Value.ref 405) (Value.none)) }
noncomputable def ownK : Params → PySem.W.Frag := fun P => (nat_lit 3, kO3 P) :: (nat_lit 30, kO30 P) :: (nat_lit 31, kO31 P) :: (nat_lit 43, kO43 P) :: (nat_lit 44, kO44 P) :: (nat_lit 55, kO55 P) :: (nat_lit 56, kO56 P) :: (nat_lit 67, kO67 P) :: (nat_lit 68, kO68 P) :: (nat_lit 79, kO79 P) :: (nat_lit 80, kO80 P) :: (nat_lit 91, kO91 P) :: (nat_lit 92, kO92 P) :: (nat_lit 103, kO103 P) :: (nat_lit 104, kO104 P) :: (nat_lit 115, kO115 P) :: (nat_lit 116, kO116 P) :: (nat_lit 127, kO127 P) :: (nat_lit 128, kO128 P) :: (nat_lit 139, kO139 P) :: (nat_lit 140, kO140 P) :: (nat_lit 151, kO151 P) :: (nat_lit 152, kO152 P) :: (nat_lit 170, kO170 P) :: (nat_lit 171, kO171 P) :: (nat_lit 182, kO182 P) :: (nat_lit 183, kO183 P) :: (nat_lit 189, kO189 P) :: (nat_lit 190, kO190 P) :: (nat_lit 210, kO210 P) :: (nat_lit 211, kO211 P) :: (nat_lit 217, kO217 P) :: (nat_lit 218, kO218 P) :: (nat_lit 224, kO224 P) :: (nat_lit 225, kO225 P) :: (nat_lit 231, kO231 P) :: (nat_lit 232, kO232 P) :: (nat_lit 238, kO238 P) :: (nat_lit 239, kO239 P) :: (nat_lit 325, kO325 P) :: (nat_lit 326, kO326 P) :: (nat_lit 343, kO343 P) :: (nat_lit 344, kO344 P) :: (nat_lit 350, kO350 P) :: (nat_lit 351, kO351 P) :: (nat_lit 357, kO357 P) :: (nat_lit 358, kO358 P) :: (nat_lit 362, kO362 P) :: (nat_lit 363, kO363 P) :: (nat_lit 369, kO369 P) :: (nat_lit 370, kO370 P) :: (nat_lit 374, kO374 P) :: (nat_lit 375, kO375 P) :: (nat_lit 379, kO379 P) :: (nat_lit 380, kO380 P) :: (nat_lit 386, kO386 P) :: (nat_lit 387, kO387 P) :: (nat_lit 393, kO393 P) :: (nat_lit 394, kO394 P) :: (nat_lit 398, kO398 P) :: (nat_lit 399, kO399 P) :: (nat_lit 405, kO405 P) :: (nat_lit 406, kO406 P) :: []
end K11
namespace K11
open PySem L2
theorem all_mk {l : PySem.W.OpenLaw} {w : World} {K : PySem.W.Frag} {h : Heap} {mg : Str → Option Value} {fa : Addr} (X : K.In h) (G : h.Ns mainGlobals mg) (hfa : mg "law" = some (.ref fa))
    {f0 : Addr} {od0 an0 : Option Addr} {sl0 : Array (Option Value)} {oc0 kV0 dc0 pm0 cd0 ct0 : Value}
    {f1 : Addr} {od1 an1 : Option Addr} {sl1 : Array (Option Value)} {oc1 kV1 dc1 pm1 cd1 ct1 : Value}
    {f2 : Addr} {od2 an2 : Option Addr} {sl2 : Array (Option Value)} {oc2 kV2 dc2 pm2 cd2 ct2 : Value}
    {f3 : Addr} {od3 an3 : Option Addr} {sl3 : Array (Option Value)} {oc3 kV3 dc3 pm3 cd3 ct3 : Value}
    {f4 : Addr} {od4 an4 : Option Addr} {sl4 : Array (Option Value)} {oc4 kV4 dc4 pm4 cd4 ct4 : Value}
    {f5 : Addr} {od5 an5 : Option Addr} {sl5 : Array (Option Value)} {oc5 kV5 dc5 pm5 cd5 ct5 : Value}
    {f6 : Addr} {od6 an6 : Option Addr} {sl6 : Array (Option Value)} {oc6 kV6 dc6 pm6 cd6 ct6 : Value}
    {f7 : Addr} {od7 an7 : Option Addr} {sl7 : Array (Option Value)} {oc7 kV7 dc7 pm7 cd7 ct7 : Value}
    {f8 : Addr} {od8 an8 : Option Addr} {sl8 : Array (Option Value)} {oc8 kV8 dc8 pm8 cd8 ct8 : Value}
    {f9 : Addr} {od9 an9 : Option Addr} {sl9 : Array (Option Value)} {oc9 kV9 dc9 pm9 cd9 ct9 : Value}
    {f10 : Addr} {od10 an10 : Option Addr} {sl10 : Array (Option Value)} {oc10 kV10 dc10 pm10 cd10 ct10 : Value}
    {f11 : Addr} {od11 an11 : Option Addr} {sl11 : Array (Option Value)} {oc11 kV11 dc11 pm11 cd11 ct11 : Value}
    {C : Addr}
    {fC_0 : Addr} {odC_0 anC_0 : Option Addr} {slC_0 : Array (Option Value)} {ocC_0 kVC_0 dcC_0 pmC_0 cdC_0 ctC_0 : Value}
    {fC_1 : Addr} {odC_1 anC_1 : Option Addr} {slC_1 : Array (Option Value)} {ocC_1 kVC_1 dcC_1 pmC_1 cdC_1 ctC_1 : Value}
    {fC_2 : Addr} {odC_2 anC_2 : Option Addr} {slC_2 : Array (Option Value)} {ocC_2 kVC_2 dcC_2 pmC_2 cdC_2 ctC_2 : Value}
    {fC_3 : Addr} {odC_3 anC_3 : Option Addr} {slC_3 : Array (Option Value)} {ocC_3 kVC_3 dcC_3 pmC_3 cdC_3 ctC_3 : Value}
    {fC_4 : Addr} {odC_4 anC_4 : Option Addr} {slC_4 : Array (Option Value)} {ocC_4 kVC_4 dcC_4 pmC_4 cdC_4 ctC_4 : Value}
    {t_LETTERS : Tok}
    {t_LONGEST_NAME : Tok}
    {x0 : Addr}
    {x1 : Addr}
    {x2 : Addr}
    {x3 : Addr}
    {x4 : Addr}
    {x5 : Addr}
    {x6 : Addr}
    {x7 : Addr}
    {x8 : Addr}
    {x9 : Addr}
    {x10 : Addr}
    {x11 : Addr}
    {x12 : Addr}
    (a0 : PySem.W.nsIn K mainGlobals "is_name" = some (some (.ref f0))) (l0 : K.lookup f0 = some ⟨oc0, od0, .func (PySem.W.fnOf "is_name" "is_name" (defArgs sName) (defBody sName) (defScope sName) .none kV0 dc0 pm0 an0 cd0 ct0), sl0⟩) (c0 : PySem.W.codeIn K cd0 "is_name" = true) (k0 : PySem.W.keepIn K (.ref f0) = true)
    (a1 : PySem.W.nsIn K mainGlobals "_law_mixed" = some (some (.ref f1))) (l1 : K.lookup f1 = some ⟨oc1, od1, .func (PySem.W.fnOf "_law_mixed" "_law_mixed" (defArgs sMixed) (defBody sMixed) (defScope sMixed) .none kV1 dc1 pm1 an1 cd1 ct1), sl1⟩) (c1 : PySem.W.codeIn K cd1 "_law_mixed" = true) (k1 : PySem.W.keepIn K (.ref f1) = true)
    (a2 : PySem.W.nsIn K mainGlobals "_law_digits" = some (some (.ref f2))) (l2 : K.lookup f2 = some ⟨oc2, od2, .func (PySem.W.fnOf "_law_digits" "_law_digits" (defArgs sDigits) (defBody sDigits) (defScope sDigits) .none kV2 dc2 pm2 an2 cd2 ct2), sl2⟩) (c2 : PySem.W.codeIn K cd2 "_law_digits" = true) (k2 : PySem.W.keepIn K (.ref f2) = true)
    (a3 : PySem.W.nsIn K mainGlobals "_law_next" = some (some (.ref f3))) (l3 : K.lookup f3 = some ⟨oc3, od3, .func (PySem.W.fnOf "_law_next" "_law_next" (defArgs sNext) (defBody sNext) (defScope sNext) .none kV3 dc3 pm3 an3 cd3 ct3), sl3⟩) (c3 : PySem.W.codeIn K cd3 "_law_next" = true) (k3 : PySem.W.keepIn K (.ref f3) = true)
    (a4 : PySem.W.nsIn K mainGlobals "_law_names" = some (some (.ref f4))) (l4 : K.lookup f4 = some ⟨oc4, od4, .func (PySem.W.fnOf "_law_names" "_law_names" (defArgs sNames) (defBody sNames) (defScope sNames) .none kV4 dc4 pm4 an4 cd4 ct4), sl4⟩) (c4 : PySem.W.codeIn K cd4 "_law_names" = true) (k4 : PySem.W.keepIn K (.ref f4) = true)
    (a5 : PySem.W.nsIn K mainGlobals "_law_odd" = some (some (.ref f5))) (l5 : K.lookup f5 = some ⟨oc5, od5, .func (PySem.W.fnOf "_law_odd" "_law_odd" (defArgs sOdd) (defBody sOdd) (defScope sOdd) .none kV5 dc5 pm5 an5 cd5 ct5), sl5⟩) (c5 : PySem.W.codeIn K cd5 "_law_odd" = true) (k5 : PySem.W.keepIn K (.ref f5) = true)
    (a6 : PySem.W.nsIn K mainGlobals "_law_kinds" = some (some (.ref f6))) (l6 : K.lookup f6 = some ⟨oc6, od6, .func (PySem.W.fnOf "_law_kinds" "_law_kinds" (defArgs sKinds) (defBody sKinds) (defScope sKinds) .none kV6 dc6 pm6 an6 cd6 ct6), sl6⟩) (c6 : PySem.W.codeIn K cd6 "_law_kinds" = true) (k6 : PySem.W.keepIn K (.ref f6) = true)
    (a7 : PySem.W.nsIn K mainGlobals "_law_alike" = some (some (.ref f7))) (l7 : K.lookup f7 = some ⟨oc7, od7, .func (PySem.W.fnOf "_law_alike" "_law_alike" (defArgs sAlike) (defBody sAlike) (defScope sAlike) .none kV7 dc7 pm7 an7 cd7 ct7), sl7⟩) (c7 : PySem.W.codeIn K cd7 "_law_alike" = true) (k7 : PySem.W.keepIn K (.ref f7) = true)
    (a8 : PySem.W.nsIn K mainGlobals "_law_told" = some (some (.ref f8))) (l8 : K.lookup f8 = some ⟨oc8, od8, .func (PySem.W.fnOf "_law_told" "_law_told" (defArgs sTold) (defBody sTold) (defScope sTold) .none kV8 dc8 pm8 an8 cd8 ct8), sl8⟩) (c8 : PySem.W.codeIn K cd8 "_law_told" = true) (k8 : PySem.W.keepIn K (.ref f8) = true)
    (a9 : PySem.W.nsIn K mainGlobals "_law_refusal" = some (some (.ref f9))) (l9 : K.lookup f9 = some ⟨oc9, od9, .func (PySem.W.fnOf "_law_refusal" "_law_refusal" (defArgs sRef) (defBody sRef) (defScope sRef) .none kV9 dc9 pm9 an9 cd9 ct9), sl9⟩) (c9 : PySem.W.codeIn K cd9 "_law_refusal" = true) (k9 : PySem.W.keepIn K (.ref f9) = true)
    (a10 : PySem.W.nsIn K mainGlobals "_law_made_of_texts" = some (some (.ref f10))) (l10 : K.lookup f10 = some ⟨oc10, od10, .func (PySem.W.fnOf "_law_made_of_texts" "_law_made_of_texts" (defArgs sMade) (defBody sMade) (defScope sMade) .none kV10 dc10 pm10 an10 cd10 ct10), sl10⟩) (c10 : PySem.W.codeIn K cd10 "_law_made_of_texts" = true) (k10 : PySem.W.keepIn K (.ref f10) = true)
    (a11 : PySem.W.nsIn K mainGlobals "law" = some (some (.ref f11))) (l11 : K.lookup f11 = some ⟨oc11, od11, .func (PySem.W.fnOf "law" "law" (defArgs sLaw) (defBody sLaw) (defScope sLaw) .none kV11 dc11 pm11 an11 cd11 ct11), sl11⟩) (c11 : PySem.W.codeIn K cd11 "law" = true) (k11 : PySem.W.keepIn K (.ref f11) = true)
    (aC_C : PySem.W.nsIn K mainGlobals "Seat" = some (some (.ref C)))
    (aC_0 : PySem.W.findIn K (.ref C) "__init__" = some (some (.ref fC_0))) (iC_0 : PySem.W.isFn K (.ref fC_0) = true) (lC_0 : K.lookup fC_0 = some ⟨ocC_0, odC_0, .func (PySem.W.fnOf "__init__" "Seat.__init__" (defArgs sInit) (defBody sInit) (defScope sInit) .none kVC_0 dcC_0 pmC_0 anC_0 cdC_0 ctC_0), slC_0⟩) (cC_0 : PySem.W.codeIn K cdC_0 "Seat.__init__" = true) (kC_0 : PySem.W.keepIn K (.ref fC_0) = true)
    (aC_1 : PySem.W.findIn K (.ref C) "arrow" = some (some (.ref fC_1))) (iC_1 : PySem.W.isFn K (.ref fC_1) = true) (lC_1 : K.lookup fC_1 = some ⟨ocC_1, odC_1, .func (PySem.W.fnOf "arrow" "Seat.arrow" (defArgs sArrow) (defBody sArrow) (defScope sArrow) .none kVC_1 dcC_1 pmC_1 anC_1 cdC_1 ctC_1), slC_1⟩) (cC_1 : PySem.W.codeIn K cdC_1 "Seat.arrow" = true) (kC_1 : PySem.W.keepIn K (.ref fC_1) = true)
    (aC_2 : PySem.W.findIn K (.ref C) "row" = some (some (.ref fC_2))) (iC_2 : PySem.W.isFn K (.ref fC_2) = true) (lC_2 : K.lookup fC_2 = some ⟨ocC_2, odC_2, .func (PySem.W.fnOf "row" "Seat.row" (defArgs sRow) (defBody sRow) (defScope sRow) .none kVC_2 dcC_2 pmC_2 anC_2 cdC_2 ctC_2), slC_2⟩) (cC_2 : PySem.W.codeIn K cdC_2 "Seat.row" = true) (kC_2 : PySem.W.keepIn K (.ref fC_2) = true)
    (aC_3 : PySem.W.findIn K (.ref C) "inside" = some (some (.ref fC_3))) (iC_3 : PySem.W.isFn K (.ref fC_3) = true) (lC_3 : K.lookup fC_3 = some ⟨ocC_3, odC_3, .func (PySem.W.fnOf "inside" "Seat.inside" (defArgs sInside) (defBody sInside) (defScope sInside) .none kVC_3 dcC_3 pmC_3 anC_3 cdC_3 ctC_3), slC_3⟩) (cC_3 : PySem.W.codeIn K cdC_3 "Seat.inside" = true) (kC_3 : PySem.W.keepIn K (.ref fC_3) = true)
    (aC_4 : PySem.W.findIn K (.ref C) "has_asked" = some (some (.ref fC_4))) (iC_4 : PySem.W.isFn K (.ref fC_4) = true) (lC_4 : K.lookup fC_4 = some ⟨ocC_4, odC_4, .func (PySem.W.fnOf "has_asked" "Seat.has_asked" (defArgs sHas) (defBody sHas) (defScope sHas) .none kVC_4 dcC_4 pmC_4 anC_4 cdC_4 ctC_4), slC_4⟩) (cC_4 : PySem.W.codeIn K cdC_4 "Seat.has_asked" = true) (kC_4 : PySem.W.keepIn K (.ref fC_4) = true)
    (pg_C : PySem.W.plainGet K C Str.empty = true) (hd_C : PySem.W.hasDictIn K C = true) (po_C : PySem.W.plainOver K C = true) (sa_C : PySem.W.findIn K (.ref C) "__setattr__" = some (some (.builtin "object.__setattr__"))) (mk_C : PySem.W.makesIn K C = true) (kc_C : PySem.W.keepIn K (.ref C) = true)
    (n_C_pointer : PySem.W.findIn K (.ref C) "pointer" = some none)
    (n_C_waiting : PySem.W.findIn K (.ref C) "waiting" = some none)
    (n_C_holder : PySem.W.findIn K (.ref C) "holder" = some none)
    (n_C_asked : PySem.W.findIn K (.ref C) "asked" = some none)
    (z_isinstance : PySem.W.nsIn K mainGlobals "isinstance" = some none)
    (z_str : PySem.W.nsIn K mainGlobals "str" = some none)
    (z_bool : PySem.W.nsIn K mainGlobals "bool" = some none)
    (z_len : PySem.W.nsIn K mainGlobals "len" = some none)
    (z_all : PySem.W.nsIn K mainGlobals "all" = some none)
    (z_range : PySem.W.nsIn K mainGlobals "range" = some none)
    (z_list : PySem.W.nsIn K mainGlobals "list" = some none)
    (z_tuple : PySem.W.nsIn K mainGlobals "tuple" = some none)
    (z_ValueError : PySem.W.nsIn K mainGlobals "ValueError" = some none)
    (g_LETTERS : PySem.W.nsIn K mainGlobals "LETTERS" = some (some (.str "abcdefghijklmnopqrstuvwxyz" t_LETTERS)))
    (g_LONGEST_NAME : PySem.W.nsIn K mainGlobals "LONGEST_NAME" = some (some (.int 8 t_LONGEST_NAME)))
    (aX_0 : PySem.W.nsIn K mainGlobals "NoTree" = some (some (.ref x0)))
    (aX_1 : PySem.W.nsIn K mainGlobals "NoHouse" = some (some (.ref x1)))
    (aX_2 : PySem.W.nsIn K mainGlobals "NoSeat" = some (some (.ref x2)))
    (aX_3 : PySem.W.nsIn K mainGlobals "NoAsker" = some (some (.ref x3)))
    (aX_4 : PySem.W.nsIn K mainGlobals "NoLetter" = some (some (.ref x4)))
    (aX_5 : PySem.W.nsIn K mainGlobals "NoRight" = some (some (.ref x5)))
    (aX_6 : PySem.W.nsIn K mainGlobals "NoRow" = some (some (.ref x6)))
    (aX_7 : PySem.W.nsIn K mainGlobals "NoTie" = some (some (.ref x7)))
    (aX_8 : PySem.W.nsIn K mainGlobals "Down" = some (some (.ref x8)))
    (aX_9 : PySem.W.nsIn K mainGlobals "NoMend" = some (some (.ref x9)))
    (aX_10 : PySem.W.nsIn K mainGlobals "NoText" = some (some (.ref x10)))
    (aX_11 : PySem.W.nsIn K mainGlobals "NoLine" = some (some (.ref x11)))
    (aX_12 : PySem.W.nsIn K mainGlobals "TreeError" = some (some (.ref x12)))
    (xtab : excTab K [x0, x1, x2, x3, x4, x5, x6, x7, x8, x9, x10, x11] x12 = true)
    (xall : excAll K [x0, x1, x2, x3, x4, x5, x6, x7, x8, x9, x10, x11] = true) :
    ∃ fd : FuncData, (∀ (s : Shared) (v : Value), BindsTo s fd ⟨[v], []⟩ [("_law_script", v)]) ∧ ∀ base : Heap, K.In base → base.Ns mainGlobals mg → FnOk l.prog w K mg base CX0 5 fa fd ["_law_script"] (spLaw K) := by
  have e := hfa.symm.trans (PySem.W.mg_of X G a11)
  cases e
  have GI : FunG K mg "is_name" sName ["thing"] := funG_mk X G a0 l0 c0 k0 (fun _ _ _ _ _ _ us hl => match us, hl with | [_], _ => rfl)
  have GM : FunG K mg "_law_mixed" sMixed ["_law_cell", "_law_k"] := funG_mk X G a1 l1 c1 k1 (fun _ _ _ _ _ _ us hl => match us, hl with | [_, _], _ => rfl)
  have GD : FunG K mg "_law_digits" sDigits ["_law_cell"] := funG_mk X G a2 l2 c2 k2 (fun _ _ _ _ _ _ us hl => match us, hl with | [_], _ => rfl)
  have GN : FunG K mg "_law_next" sNext ["_law_source", "_law_many"] := funG_mk X G a3 l3 c3 k3 (fun _ _ _ _ _ _ us hl => match us, hl with | [_, _], _ => rfl)
  have GNa : FunG K mg "_law_names" sNames ["_law_source", "_law_many"] := funG_mk X G a4 l4 c4 k4 (fun _ _ _ _ _ _ us hl => match us, hl with | [_, _], _ => rfl)
  have GO : FunG K mg "_law_odd" sOdd ["_law_source", "_law_name"] := funG_mk X G a5 l5 c5 k5 (fun _ _ _ _ _ _ us hl => match us, hl with | [_, _], _ => rfl)
  have GK : FunG K mg "_law_kinds" sKinds ["_law_e"] := funG_mk X G a6 l6 c6 k6 (fun _ _ _ _ _ _ us hl => match us, hl with | [_], _ => rfl)
  have GAl : FunG K mg "_law_alike" sAlike ["_law_found", "_law_due"] := funG_mk X G a7 l7 c7 k7 (fun _ _ _ _ _ _ us hl => match us, hl with | [_, _], _ => rfl)
  have GT : FunG K mg "_law_told" sTold ["_law_seat"] := funG_mk X G a8 l8 c8 k8 (fun _ _ _ _ _ _ us hl => match us, hl with | [_], _ => rfl)
  have GR : FunG K mg "_law_refusal" sRef ["_law_arrow"] := funG_mk X G a9 l9 c9 k9 (fun _ _ _ _ _ _ us hl => match us, hl with | [_], _ => rfl)
  have GMd : FunG K mg "_law_made_of_texts" sMade [] := funG_mk X G a10 l10 c10 k10 (fun _ _ _ _ _ _ us hl => match us, hl with | [], _ => rfl)
  have FL := fun_mk (st := sLaw) l11 c11 k11
  have cl_C : Cls K C := ⟨pg_C, hd_C, po_C, sa_C⟩
  have mIF := fun_mk (st := sInit) lC_0 cC_0 kC_0
  have mIB := mIF.binds (ps := ["self", "arrow"]) (fun _ _ _ _ _ _ us hl => match us, hl with | [_, _], _ => rfl)
  have mIM : Mk K C fC_0 := ⟨mk_C, aC_0, iC_0, kc_C⟩
  have mA : MthG K C "arrow" "Seat.arrow" sArrow ["self"] := mthG_mk aC_1 iC_1 lC_1 cC_1 kC_1 (fun _ _ _ _ _ _ us hl => match us, hl with | [_], _ => rfl)
  have mR : MthG K C "row" "Seat.row" sRow ["self"] := mthG_mk aC_2 iC_2 lC_2 cC_2 kC_2 (fun _ _ _ _ _ _ us hl => match us, hl with | [_], _ => rfl)
  have mIn : MthG K C "inside" "Seat.inside" sInside ["self"] := mthG_mk aC_3 iC_3 lC_3 cC_3 kC_3 (fun _ _ _ _ _ _ us hl => match us, hl with | [_], _ => rfl)
  have mH : MthG K C "has_asked" "Seat.has_asked" sHas ["self"] := mthG_mk aC_4 iC_4 lC_4 cC_4 kC_4 (fun _ _ _ _ _ _ us hl => match us, hl with | [_], _ => rfl)
  have mg_C := PySem.W.mg_of X G aC_C
  have b_isinstance : Blt mg "isinstance" := ⟨PySem.W.mg_none_of X G z_isinstance⟩
  have b_str : Blt mg "str" := ⟨PySem.W.mg_none_of X G z_str⟩
  have b_bool : Blt mg "bool" := ⟨PySem.W.mg_none_of X G z_bool⟩
  have b_len : Blt mg "len" := ⟨PySem.W.mg_none_of X G z_len⟩
  have b_all : Blt mg "all" := ⟨PySem.W.mg_none_of X G z_all⟩
  have b_range : Blt mg "range" := ⟨PySem.W.mg_none_of X G z_range⟩
  have b_list : Blt mg "list" := ⟨PySem.W.mg_none_of X G z_list⟩
  have b_tuple : Blt mg "tuple" := ⟨PySem.W.mg_none_of X G z_tuple⟩
  have b_ValueError : Blt mg "ValueError" := ⟨PySem.W.mg_none_of X G z_ValueError⟩
  have gl_LETTERS : Glo mg "LETTERS" (.str abc) := ⟨_, PySem.W.mg_of X G g_LETTERS, ⟨_, rfl⟩⟩
  have gl_LONGEST_NAME : Glo mg "LONGEST_NAME" (.int 8) := ⟨_, PySem.W.mg_of X G g_LONGEST_NAME, ⟨_, rfl⟩⟩
  refine ⟨PySem.W.fnOf "law" "law" (defArgs sLaw) (defBody sLaw) (defScope sLaw) .none kV11 dc11 pm11 an11 cd11 ct11, fun s v => .of_eq rfl, fun base _ _ => ?_⟩
  have T : SeatT K C := ⟨cl_C, n_C_pointer, n_C_waiting, n_C_holder, n_C_asked⟩
  obtain ⟨cs, hcs⟩ : ∃ cs : Nat → Addr, cs = fun i => [x0, x1, x2, x3, x4, x5, x6, x7, x8, x9, x10, x11].getD i 0 := ⟨_, rfl⟩
  have kn : Kn K mg cs := by
    subst hcs
    exact ⟨⟨_, PySem.W.mg_of X G aX_0, rfl⟩, ⟨_, PySem.W.mg_of X G aX_1, rfl⟩, ⟨_, PySem.W.mg_of X G aX_2, rfl⟩, ⟨_, PySem.W.mg_of X G aX_3, rfl⟩, ⟨_, PySem.W.mg_of X G aX_4, rfl⟩, ⟨_, PySem.W.mg_of X G aX_5, rfl⟩, ⟨_, PySem.W.mg_of X G aX_6, rfl⟩, ⟨_, PySem.W.mg_of X G aX_7, rfl⟩, ⟨_, PySem.W.mg_of X G aX_8, rfl⟩, ⟨_, PySem.W.mg_of X G aX_9, rfl⟩, ⟨_, PySem.W.mg_of X G aX_10, rfl⟩, ⟨_, PySem.W.mg_of X G aX_11, rfl⟩, fun i j hi hj => tab_kd xtab hi hj, fun i hi => tab_kv xtab hi, fun i hi => all_ek xall hi⟩
  have hmk : Mk11 K mg cs := by
    subst hcs
    exact ⟨⟨PySem.W.mg_of X G aX_0, tab_ok xtab (i := 0) (by decide) (by decide)⟩, ⟨PySem.W.mg_of X G aX_1, tab_ok xtab (i := 1) (by decide) (by decide)⟩, ⟨PySem.W.mg_of X G aX_2, tab_ok xtab (i := 2) (by decide) (by decide)⟩, ⟨PySem.W.mg_of X G aX_3, tab_ok xtab (i := 3) (by decide) (by decide)⟩, ⟨PySem.W.mg_of X G aX_4, tab_ok xtab (i := 4) (by decide) (by decide)⟩, ⟨PySem.W.mg_of X G aX_5, tab_ok xtab (i := 5) (by decide) (by decide)⟩, ⟨PySem.W.mg_of X G aX_6, tab_ok xtab (i := 6) (by decide) (by decide)⟩, ⟨PySem.W.mg_of X G aX_7, tab_ok xtab (i := 7) (by decide) (by decide)⟩, ⟨PySem.W.mg_of X G aX_8, tab_ok xtab (i := 8) (by decide) (by decide)⟩, ⟨PySem.W.mg_of X G aX_9, tab_ok xtab (i := 9) (by decide) (by decide)⟩, ⟨PySem.W.mg_of X G aX_11, tab_ok xtab (i := 11) (by decide) (by decide)⟩⟩
  have kT : ∀ i, i < 12 → PySem.W.kitOne K (.ref (cs i)) (.ref x12) = some true := by
    subst hcs
    exact fun i hi => tab_kT xtab hi
  have hex : PySem.W.exmOne K (.ref (cs 2)) (.ref x12) = some true := by
    subst hcs
    exact tab_ex xtab (i := 2) (by decide)
  have mgT := PySem.W.mg_of X G aX_12
  have gT : Glo mg "TreeError" (.ref x12) := ⟨_, mgT, rfl⟩
  have CI := okName (P := l.prog) (w := w) (base := base) GI b_isinstance b_str b_len b_all gl_LETTERS gl_LONGEST_NAME
  have MA := okArrow (P := l.prog) (w := w) (mg := mg) (base := base) T mA
  have MR := okRow (P := l.prog) (w := w) (mg := mg) (base := base) T mR b_list
  have MIn := okInside (P := l.prog) (w := w) (mg := mg) (base := base) T mIn
  have MH := okHas (P := l.prog) (w := w) (mg := mg) (base := base) T mH
  have MK : MkCal l.prog w K mg base (CXE l.prog w) 2 C "Seat" ["self", "arrow"] (spInitX K C (cs 2)) := ⟨_, _, okInitX T mIF CI hmk.c2, mIM, mg_C, mIB⟩
  have CM := okMixed (P := l.prog) (w := w) (base := base) GM
  have CD := okDigits (P := l.prog) (w := w) (base := base) GD
  have CN := okNext GN CM
  have CNa := okNames GNa CN b_range
  have CA := okAlike (P := l.prog) (w := w) (base := base) GAl b_isinstance b_list b_tuple b_bool b_len b_all b_range 3
  have CT := okTold T GT MA MR MIn MH
  have CK := okKinds (P := l.prog) (w := w) (base := base) kn GK b_isinstance b_len b_range b_ValueError
  have CKH := okKindsH (P := l.prog) (w := w) (base := base) kn GK b_isinstance b_len b_range b_ValueError
  have CR := okRef GR MK CKH mgT hex
  have CMd := okMade GMd CK hmk kn gT kT b_isinstance b_all
  have CO := okOdd GO CN b_len
  exact okLaw T FL CMd CD CNa CT CA CR CO MR MK b_range
theorem walk {l : PySem.W.OpenLaw} {q : Program} {loose : List Str} {XP : (Str → Option Value) → Heap → Prop} {YP : World → Heap → Prop} {d : DefRec} {K : Params → PySem.W.Frag} (hn : l.most = some 63) (hdf : d.params.defaults = [])
    (hY : ∀ (w : World) (h : Heap), YP w h → (K w.params).In h)
    (F : ∀ (w : World) (mg : Str → Option Value) (fa : Addr) (h : Heap), (K w.params).In h → h.Ns mainGlobals mg → mg d.name = some (.ref fa) →
      ∃ fd : FuncData, (∀ (s : Shared) (u : Value), BindsTo s fd ⟨[u], []⟩ [("_law_script", u)]) ∧ ∀ base : Heap, (K w.params).In base → base.Ns mainGlobals mg → FnOk l.prog w (K w.params) mg base CX0 5 fa fd ["_law_script"] (spLaw (K w.params))) :
    PySem.W.WalkO q loose XP YP l.row.toRowW d [] (fun f vs => PySem.call f vs) :=
  L2.walk_of (n := 63) (k := 5) (x := "_law_script") (CX := fun _ => CX0) (sp := fun w => spLaw (K w.params)) hn (by decide) hdf ⟨rfl, by decide, by decide⟩ hY F (fun _ _ a ns hl _ hS => ⟨a, ns, rfl, hS, hl, fun _ => rfl⟩) fun _ _ _ _ _ z => z
end K11
open PySem PySem.W PyProof.Rows
set_option maxRecDepth 100000 in
set_option maxHeartbeats 0 in
theorem PySem.Challenge.cw_treeright_k11_seats_made_holds : PySem.Challenge.rw_treeright_k11_seats_made.Holds := by
  w_on; o_law; o_head (PySem.W.kHook K11.ownK [3, 30, 31, 43, 44, 55, 56, 67, 68, 79, 80, 91, 92, 103, 104, 115, 116, 127, 128, 139, 140, 151, 152, 170, 171, 182, 183, 189, 190, 210, 211, 217, 218, 224, 225, 231, 232, 238, 239, 325, 326, 343, 344, 350, 351, 357, 358, 362, 363, 369, 370, 374, 375, 379, 380, 386, 387, 393, 394, 398, 399, 405, 406] (fun _ => by kernel_rfl)); (case hw => w_witness2)
  k_fill
  refine K11.walk (l := PySem.Challenge.rw_treeright_k11_seats_made) rfl rfl (fun w h Y => PySem.W.kIn_of Y) ?F
  case F =>
    intro w mg fa h KX G hmg
    refine' K11.all_mk KX G hmg ?a0 ?l0 ?c0 ?k0 ?a1 ?l1 ?c1 ?k1 ?a2 ?l2 ?c2 ?k2 ?a3 ?l3 ?c3 ?k3 ?a4 ?l4 ?c4 ?k4 ?a5 ?l5 ?c5 ?k5 ?a6 ?l6 ?c6 ?k6 ?a7 ?l7 ?c7 ?k7 ?a8 ?l8 ?c8 ?k8 ?a9 ?l9 ?c9 ?k9 ?a10 ?l10 ?c10 ?k10 ?a11 ?l11 ?c11 ?k11 ?aC_C ?aC_0 ?iC_0 ?lC_0 ?cC_0 ?kC_0 ?aC_1 ?iC_1 ?lC_1 ?cC_1 ?kC_1 ?aC_2 ?iC_2 ?lC_2 ?cC_2 ?kC_2 ?aC_3 ?iC_3 ?lC_3 ?cC_3 ?kC_3 ?aC_4 ?iC_4 ?lC_4 ?cC_4 ?kC_4 ?pg_C ?hd_C ?po_C ?sa_C ?mk_C ?kc_C ?n_C_pointer ?n_C_waiting ?n_C_holder ?n_C_asked ?z_isinstance ?z_str ?z_bool ?z_len ?z_all ?z_range ?z_list ?z_tuple ?z_ValueError ?g_LETTERS ?g_LONGEST_NAME ?aX_0 ?aX_1 ?aX_2 ?aX_3 ?aX_4 ?aX_5 ?aX_6 ?aX_7 ?aX_8 ?aX_9 ?aX_10 ?aX_11 ?aX_12 ?xtab ?xall
    (case a0 => k_is)
    (case l0 => k_is)
    (case c0 => k_is)
    (case k0 => k_is)
    (case a1 => k_is)
    (case l1 => k_is)
    (case c1 => k_is)
    (case k1 => k_is)
    (case a2 => k_is)
    (case l2 => k_is)
    (case c2 => k_is)
    (case k2 => k_is)
    (case a3 => k_is)
    (case l3 => k_is)
    (case c3 => k_is)
    (case k3 => k_is)
    (case a4 => k_is)
    (case l4 => k_is)
    (case c4 => k_is)
    (case k4 => k_is)
    (case a5 => k_is)
    (case l5 => k_is)
    (case c5 => k_is)
    (case k5 => k_is)
    (case a6 => k_is)
    (case l6 => k_is)
    (case c6 => k_is)
    (case k6 => k_is)
    (case a7 => k_is)
    (case l7 => k_is)
    (case c7 => k_is)
    (case k7 => k_is)
    (case a8 => k_is)
    (case l8 => k_is)
    (case c8 => k_is)
    (case k8 => k_is)
    (case a9 => k_is)
    (case l9 => k_is)
    (case c9 => k_is)
    (case k9 => k_is)
    (case a10 => k_is)
    (case l10 => k_is)
    (case c10 => k_is)
    (case k10 => k_is)
    (case a11 => k_is)
    (case l11 => k_is)
    (case c11 => k_is)
    (case k11 => k_is)
    (case aC_C => k_is)
    (case aC_0 => k_is)
    (case iC_0 => k_is)
    (case lC_0 => k_is)
    (case cC_0 => k_is)
    (case kC_0 => k_is)
    (case aC_1 => k_is)
    (case iC_1 => k_is)
    (case lC_1 => k_is)
    (case cC_1 => k_is)
    (case kC_1 => k_is)
    (case aC_2 => k_is)
    (case iC_2 => k_is)
    (case lC_2 => k_is)
    (case cC_2 => k_is)
    (case kC_2 => k_is)
    (case aC_3 => k_is)
    (case iC_3 => k_is)
    (case lC_3 => k_is)
    (case cC_3 => k_is)
    (case kC_3 => k_is)
    (case aC_4 => k_is)
    (case iC_4 => k_is)
    (case lC_4 => k_is)
    (case cC_4 => k_is)
    (case kC_4 => k_is)
    (case pg_C => k_is)
    (case hd_C => k_is)
    (case po_C => k_is)
    (case sa_C => k_is)
    (case mk_C => k_is)
    (case kc_C => k_is)
    (case n_C_pointer => k_is)
    (case n_C_waiting => k_is)
    (case n_C_holder => k_is)
    (case n_C_asked => k_is)
    (case z_isinstance => k_is)
    (case z_str => k_is)
    (case z_bool => k_is)
    (case z_len => k_is)
    (case z_all => k_is)
    (case z_range => k_is)
    (case z_list => k_is)
    (case z_tuple => k_is)
    (case z_ValueError => k_is)
    (case g_LETTERS => k_is)
    (case g_LONGEST_NAME => k_is)
    (case aX_0 => k_is)
    (case aX_1 => k_is)
    (case aX_2 => k_is)
    (case aX_3 => k_is)
    (case aX_4 => k_is)
    (case aX_5 => k_is)
    (case aX_6 => k_is)
    (case aX_7 => k_is)
    (case aX_8 => k_is)
    (case aX_9 => k_is)
    (case aX_10 => k_is)
    (case aX_11 => k_is)
    (case aX_12 => k_is)
    (case xtab => kernel_rfl)
    (case xall => kernel_rfl)
