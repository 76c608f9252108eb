import PyProof.Rows.All
import Wide.All
import OpenK.AllK
import Wide.FinOn
import Lean
import PyProof.EqAt
import PyProof.EqKinds
import PyProof.TupleCall
import PySem.Challenge.RW_treeright_k03_what_is_no_tree
noncomputable section
set_option Elab.async false
set_option linter.all false
set_option maxRecDepth 100000
namespace L2
open PySem PySem.Spec PyProof.Rows
abbrev Key:=Sum Int Str
def keyIs:Key->Value->Bool
 | .inl k,v=>Value.isInt k v
 | .inr x,v=>Value.isStrOf x v
def keyH (w:World):Key->Int
 | .inl k=>hashInt k
 | .inr x=>hashStr w x
theorem keyIs_shape:∀ {k:Key} {v:Value},keyIs k v=true->(∃ i t,k=Sum.inl i/\v=Value.int i t) \/ (∃ x t,k=Sum.inr x/\v=Value.str x t)
 | .inl i,v,h=>by
  obtain ⟨t,e⟩:=Value.isInt_shape (k:=i) (v:=v) h
  exact .inl ⟨i,t,rfl,e⟩
 | .inr x,v,h=>by
  obtain ⟨t,e⟩:=Value.isStrOf_shape (x:=x) (v:=v) h
  exact .inr ⟨x,t,rfl,e⟩
theorem keyIs_int (i:Int) (t:Tok):keyIs (.inl i) (.int i t)=true:=by simp [keyIs,Value.isInt]
theorem keyIs_str (x:Str) (t:Tok):keyIs (.inr x) (.str x t)=true:=by simp [keyIs,Value.isStrOf]
theorem key_ll (a b:Int):decide ((Sum.inl a:Key)=Sum.inl b)=(a == b):=by
 by_cases e:a=b
 ·subst e;simp
 ·have h:¬ (Sum.inl a:Key)=Sum.inl b:=fun q=>e (Sum.inl.inj q)
  rw [decide_eq_false h]
  exact (beq_eq_false_iff_ne.mpr e).symm
theorem key_rr (a b:Str):decide ((Sum.inr a:Key)=Sum.inr b)=decide (a=b):=by
 by_cases e:a=b
 ·subst e;simp
 ·have h:¬ (Sum.inr a:Key)=Sum.inr b:=fun q=>e (Sum.inr.inj q)
  rw [decide_eq_false h,decide_eq_false e]
theorem key_lr (a:Int) (b:Str):decide ((Sum.inl a:Key)=Sum.inr b)=false:=decide_eq_false (fun q=>nomatch q)
theorem key_rl (a:Str) (b:Int):decide ((Sum.inr a:Key)=Sum.inl b)=false:=decide_eq_false (fun q=>nomatch q)
def mixKind (prog:Program) (w:World):PySem.KeyKind prog w Key where
 is:=keyIs
 hash:=keyH w
 inj:=fun v a b ha hb=>by
  rcases keyIs_shape ha with ⟨i,t,rfl,rfl⟩ | ⟨x,t,rfl,rfl⟩
  ·rcases keyIs_shape hb with ⟨j,u,rfl,e⟩ | ⟨y,u,rfl,e⟩
   ·injection e with e1 _;rw [e1]
   ·exact nomatch e
  ·rcases keyIs_shape hb with ⟨j,u,rfl,e⟩ | ⟨y,u,rfl,e⟩
   ·exact nomatch e
   ·injection e with e1 _;rw [e1]
 byValue:=fun k v h=>by
  rcases keyIs_shape h with ⟨i,t,rfl,rfl⟩ | ⟨x,t,rfl,rfl⟩ <;> rfl
 pyHash:=fun hv h=>by
  rcases keyIs_shape hv with ⟨i,t,rfl,rfl⟩ | ⟨x,t,rfl,rfl⟩
  ·exact wpAny_pyHash_int h
  ·exact wpAny_pyHash_str h
 eqBool:=fun hu hv h=>by
  rcases keyIs_shape hu with ⟨i,t,rfl,rfl⟩ | ⟨x,t,rfl,rfl⟩
  ·rcases keyIs_shape hv with ⟨j,u,rfl,rfl⟩ | ⟨y,u,rfl,rfl⟩
   ·rw [key_ll] at h;exact wpAny_eqBool_int h
   ·rw [key_lr] at h;exact SeqAt.EqAt.int_str i t y u _ _ _ _ h
  ·rcases keyIs_shape hv with ⟨j,u,rfl,rfl⟩ | ⟨y,u,rfl,rfl⟩
   ·rw [key_rl] at h;exact SeqAt.EqAt.str_int x t j u _ _ _ _ h
   ·rw [key_rr] at h;exact wpAny_eqBool_str h
 «strs»:=fun k x t v h=>by
  rcases keyIs_shape h with ⟨i,u,rfl,e⟩ | ⟨y,u,rfl,e⟩
  ·exact nomatch e
  ·injection e with e1 _
   subst e1
   cases v <;> rfl
theorem mixKind_int (prog:Program) (w:World) (i:Int) (t:Tok):(mixKind prog w).is (.inl i) (.int i t)=true:=keyIs_int i t
theorem mixKind_str (prog:Program) (w:World) (x:Str) (t:Tok):(mixKind prog w).is (.inr x) (.str x t)=true:=keyIs_str x t
end L2
namespace L2
open PySem PySem.Spec PyProof.Rows
inductive V where
 | non | bl (b:Bool) | int (i:Int) | str (x:Str) | byt (b:Array UInt8) | flt (b:UInt64) | ref (a:Addr) | ty (n:String)
 deriving DecidableEq
def RelV:V->Value->Prop
 | .non,u=>u=Value.none
 | .bl b,u=>u=Value.bool b
 | .int i,u=>∃ t,u=Value.int i t
 | .str x,u=>∃ t,u=Value.str x t
 | .byt b,u=>∃ t,u=Value.bytes b t
 | .flt b,u=>∃ t,u=Value.float b t
 | .ref a,u=>u=Value.ref a
 | .ty n,u=>u=Value.type n
abbrev Vals:List V->List Value->Prop:=Paired RelV
theorem Vals.length {xs:List V} {us:List Value} (r:Vals xs us):xs.length=us.length:=Paired.length r
theorem Vals.get:∀ {xs:List V} {us:List Value} {i:Nat} {x:V},Vals xs us->xs[i]?=some x->∃ u,us[i]?=some u/\RelV x u
 | _,_,_,_,.nil,e=>by simp at e
 | _,_,0,_,.cons r _,e=>by simp at e;subst e;exact ⟨_,rfl,r⟩
 | _,_,i + 1,x,.cons _ t,e=>by
  obtain ⟨u,h1,h2⟩:=Vals.get (i:=i) (x:=x) t (by simpa using e)
  exact ⟨u,by simpa using h1,h2⟩
theorem Vals.set {x:V} {u:Value} (r:RelV x u):∀ {xs:List V} {us:List Value} (i:Nat),Vals xs us->Vals (xs.set i x) (us.set i u)
 | _,_,_,.nil=>.nil
 | _,_,0,.cons _ t=>.cons r t
 | _,_,i + 1,.cons q t=>.cons q (Vals.set r i t)
theorem Vals.append {xs ys:List V} {us ws:List Value} (h:Vals xs us) (s:Vals ys ws):Vals (xs ++ ys) (us ++ ws):=by
 induction h with
 | nil=>exact s
 | cons r _ ih=>exact .cons r ih
theorem Vals.take:∀ {xs:List V} {us:List Value} (n:Nat),Vals xs us->Vals (xs.take n) (us.take n)
 | _,_,0,_=>.nil
 | _,_,_ + 1,.nil=>.nil
 | _,_,n + 1,.cons r t=>.cons r (Vals.take n t)
theorem Vals.drop:∀ {xs:List V} {us:List Value} (n:Nat),Vals xs us->Vals (xs.drop n) (us.drop n)
 | _,_,0,r=>r
 | _,_,_ + 1,.nil=>.nil
 | _,_,n + 1,.cons _ t=>Vals.drop n t
def RelO:Option V->Option Value->Prop
 | some v,some u=>RelV v u
 | none,none=>True
 | _,_=>False
def KV {κ:Type}:List (κ × V)->List (κ × Value)->Prop:=Paired fun (p:κ × V) (q:κ × Value)=>p.1=q.1/\RelV p.2 q.2
def kV:Key->V
 | .inl i=>.int i
 | .inr x=>.str x
inductive HO where
 | lst (xs:List V)
 | tup (xs:List V)
 | dK (kvs:List (Key × V)) | dT (kvs:List (List Key × V))
 | set (S:Int->Bool) (n:Nat)
 | ins (C dx:Addr) (fs:List (Str × V))
 | own (x:Addr)
 | xd (fs:List (Str × V))
 | met (f x:Addr)
 | rng (lo hi:Int)
 | frz (o:Obj) (u:HO)
 | tbl (ps:Array Value)
 | ext (φ:Heap->Prop)
abbrev Hp:=Addr->Option HO
def upd (H:Hp) (a:Addr) (o:HO):Hp:=fun b=>if b=a then some o else H b
theorem upd_same {H:Hp} {a:Addr} {o:HO}:upd H a o a=some o:=by unfold upd;rw [if_pos rfl]
theorem upd_ne {H:Hp} {a b:Addr} {o:HO} (h:b ≠ a):upd H a o b=H b:=by unfold upd;rw [if_neg h]
theorem upd_upd {H:Hp} {a:Addr} {o u:HO}:upd (upd H a o) a u=upd H a u:=by
 funext b;unfold upd;split <;> rfl
theorem ne_of {H:Hp} {a b:Addr} {o u:HO} (h:H a=some o) (h':H b=some u) (d:o ≠ u):a ≠ b:=by
 intro e;subst e;rw [h] at h';exact d (Option.some.inj h')
theorem ne_of_none {H:Hp} {a b:Addr} {o:HO} (h:H a=some o) (h':H b=none):a ≠ b:=by
 intro e;subst e;rw [h] at h';cases h'
section
variable (P:Program) (w:World)
def ObjOk (H:Hp) (h:Heap) (a:Addr):HO->Prop
 | .lst xs=>xs.length <= sizeLine/\∃ (its:List Value) (n:Nat),Vals xs its/\h.get? a=some { cls:=.type "list",data:=.seq its.toArray n }
 | .tup xs=>xs.length <= sizeLine/\∃ its:List Value,Vals xs its/\IsTup h a its.toArray
 | .dK kvs=>kvs.length <= sizeLine/\(a == sysModules)=false/\∃ vs,KV kvs vs/\h.DictOf (mixKind P w) a vs
 | .dT kvs=>kvs.length <= sizeLine/\(a == sysModules)=false/\∃ xs:List (List Key × Addr × Value),
   Paired (fun (p:List Key × V) (q:List Key × Addr × Value)=>p.1=q.1/\H q.2.1=some (.tup (p.1.map kV))/\RelV p.2 q.2.2) kvs xs /\
   ∃ o es ep,h.get? a=some o/\o.ExactDict/\o.data=.dict es ep/\es.toList=xs.map (entryOfKey (tupleKind (mixKind P w)))/\(xs.map (·.1)).Nodup
 | .set S n=>h.SetOf (intKind P w) a S n
 | .ins C dx fs=>H dx=some (.own a)/\fs.length <= 1000/\dx ≠ a/\h.get? a=some (PySem.W.instObj C dx) /\
   ∃ mA,h.Ns1 dx mA/\(∀ f,RelO (fs.lookup f) (mA f))/\PySem.Within mA (fs.map (·.1))
 | .own _=>∃ o,h.get? a=some o
 | .xd fs=>∃ mA,h.Ns1 a mA/\∀ f,RelO (fs.lookup f) (mA f)
 | .rng lo hi=>∃ t u v,h.get? a=some { cls:=.type "range",data:=.fields #[.int lo t,.int hi u,.int 1 v] }
 | .frz o u=>h.get? a=some o/\ObjOk H h a u
 | .tbl ps=>h.get? a=some { cls:=.none,data:=.fields ps }
 | .met f x=>h.get? a=some (PySem.W.methodObj (.ref f) (.ref x))
 | .ext φ=>φ h/\(∃ o,h.get? a=some o)/\∀ h1 h2:Heap,φ h1->(∀ o,h1.get? a=some o->h2.get? a=some o)->φ h2
def HOk (H:Hp) (h:Heap):Prop:=∀ a o,H a=some o->ObjOk P w H h a o
end
section
variable {P:Program} {w:World} {H H':Hp} {h h':Heap} {a:Addr} {o:HO}
theorem ObjOk.lt (x:ObjOk P w H h a o):a < h.objs.size:=by
 cases o with
 | lst xs=>obtain ⟨_,_,_,_,e⟩:=x;exact Heap.lt_size e
 | tup xs=>obtain ⟨_,_,_,p⟩:=x;exact p.lt
 | dK kvs=>obtain ⟨_,_,_,_,o,_,_,e,_⟩:=x;exact Heap.lt_size e
 | dT kvs=>obtain ⟨_,_,_,_,o,_,_,e,_⟩:=x;exact Heap.lt_size e
 | set S n=>obtain ⟨o,_,_,_,e,_⟩:=x;exact Heap.lt_size e
 | ins C dx fs=>obtain ⟨_,_,_,e,_⟩:=x;exact Heap.lt_size e
 | own y=>obtain ⟨_,e⟩:=x;exact Heap.lt_size e
 | xd fs=>obtain ⟨_,⟨_,_,_,e,_⟩,_⟩:=x;exact Heap.lt_size e
 | rng lo hi=>obtain ⟨_,_,_,e⟩:=x;exact Heap.lt_size e
 | frz ob u=>obtain ⟨e,_⟩:=x;exact Heap.lt_size e
 | tbl ps=>exact Heap.lt_size (show h.get? a=some _ from x)
 | met f y=>exact Heap.lt_size (show h.get? a=some _ from x)
 | ext φ=>obtain ⟨_,⟨_,e⟩,_⟩:=x;exact Heap.lt_size e
theorem Paired.mapP {α β:Type} {F G:α->β->Prop} {l₁:List α} {l₂:List β} (h:Paired F l₁ l₂) (f:∀ a b,F a b->G a b):Paired G l₁ l₂:=by
 induction h with
 | nil=>exact .nil
 | cons r _ ih=>exact .cons (f _ _ r) ih
theorem ObjOk.stay (x:ObjOk P w H h a o) (k:∀ b u,(b=a \/ H b=some (.own a))->h.get? b=some u->h'.get? b=some u)
  (ho:∀ b,H b=some (.own a)->H' b=some (.own a)) (ht:∀ b xs,H b=some (.tup xs)->H' b=some (.tup xs)):ObjOk P w H' h' a o:=by
 induction o with
 | lst xs=>obtain ⟨z,its,n,r,e⟩:=x;exact ⟨z,its,n,r,k _ _ (.inl rfl) e⟩
 | tup xs=>obtain ⟨z,its,r,ob,e,c⟩:=x;exact ⟨z,its,r,ob,k _ _ (.inl rfl) e,c⟩
 | dK kvs=>obtain ⟨z,y,vs,r,ob,es,ep,e,c⟩:=x;exact ⟨z,y,vs,r,ob,es,ep,k _ _ (.inl rfl) e,c⟩
 | dT kvs=>
  obtain ⟨z,y,xs,r,ob,es,ep,e,c⟩:=x
  exact ⟨z,y,xs,Paired.mapP r fun p q z=>⟨z.1,ht _ _ z.2.1,z.2.2⟩,ob,es,ep,k _ _ (.inl rfl) e,c⟩
 | set S n=>obtain ⟨ob,es,ep,t,e,c⟩:=x;exact ⟨ob,es,ep,t,k _ _ (.inl rfl) e,c⟩
 | ins C dx fs=>
  obtain ⟨d,z,ne,e,mA,⟨od,es,ep,e2,c⟩,r⟩:=x
  exact ⟨ho _ d,z,ne,k _ _ (.inl rfl) e,mA,⟨od,es,ep,k _ _ (.inr d) e2,c⟩,r⟩
 | own y=>obtain ⟨ob,e⟩:=x;exact ⟨ob,k _ _ (.inl rfl) e⟩
 | xd fs=>obtain ⟨mA,⟨od,es,ep,e,c⟩,r⟩:=x;exact ⟨mA,⟨od,es,ep,k _ _ (.inl rfl) e,c⟩,r⟩
 | rng lo hi=>obtain ⟨t,u,v,e⟩:=x;exact ⟨t,u,v,k _ _ (.inl rfl) e⟩
 | frz ob u ih=>obtain ⟨e,q⟩:=x;exact ⟨k _ _ (.inl rfl) e,ih q⟩
 | tbl ps=>
  have e:h.get? a=some { cls:=.none,data:=.fields ps }:=x
  show h'.get? a=some { cls:=.none,data:=.fields ps }
  exact k a _ (.inl rfl) e
 | met f y=>
  have e:h.get? a=some (PySem.W.methodObj (.ref f) (.ref y)):=x
  show h'.get? a=some (PySem.W.methodObj (.ref f) (.ref y))
  exact k a _ (.inl rfl) e
 | ext φ=>obtain ⟨p,⟨o,e⟩,st⟩:=x;exact ⟨st _ _ p fun o q=>k _ _ (.inl rfl) q,⟨o,k _ _ (.inl rfl) e⟩,st⟩
theorem HOk.lt (x:HOk P w H h) (e:H a=some o):a < h.objs.size:=(x a o e).lt
theorem HOk.fresh (x:HOk P w H h) (e:h.objs.size <= a):H a=none:=by
 cases q:H a with
 | none=>rfl
 | some u=>exact absurd (Nat.lt_of_lt_of_le (x.lt q) e) (Nat.lt_irrefl _)
theorem HOk.kept (x:HOk P w H h) (k:∀ b u,h.get? b=some u->h'.get? b=some u):HOk P w H h':=fun a o e=>
 (x a o e).stay (fun b u _ q=>k b u q) (fun _ q=>q) fun _ _ q=>q
theorem HOk.laid (x:HOk P w H h) (k:∀ b u,h.get? b=some u->h'.get? b=some u) (hp:h.objs.size <= a) (new:ObjOk P w (upd H a o) h' a o):HOk P w (upd H a o) h':=fun b u e=>by
 have hn:=x.fresh hp
 by_cases hb:b=a
 ·subst hb;rw [upd_same] at e;cases e;exact new
 ·rw [upd_ne hb] at e
  exact (x b u e).stay (fun c v _ q=>k c v q) (fun c q=>by rw [upd_ne (ne_of_none q hn)];exact q) fun c xs q=>by rw [upd_ne (ne_of_none q hn)];exact q
end
def Rd (H:Hp) (a:Addr) (u:HO):Prop:=H a=some u \/ ∃ o,H a=some (.frz o u)
theorem Rd.ok {P:Program} {w:World} {H:Hp} {h:Heap} {a:Addr} {u:HO} (r:Rd H a u) (x:HOk P w H h):ObjOk P w H h a u:=by
 rcases r with r | ⟨o,r⟩
 ·exact x a u r
 ·obtain ⟨_,q⟩:=x a _ r
  exact q
def Mut:Option HO->Prop
 | some (.lst _)=>True
 | some (.dK _)=>True
 | some (.dT _)=>True
 | some (.set _ _)=>True
 | some (.ins _ _ _)=>True
 | some (.ext _)=>True
 | _=>False
section
variable {P:Program} {w:World} {H:Hp} {h h':Heap} {x e:Addr} {o':HO}
theorem HOk.write (ok:HOk P w H h) (mu:Mut (H x)) (he:e=x \/ H e=some (.own x)) (k:∀ b u,b ≠ e->h.get? b=some u->h'.get? b=some u) (heo:∃ u,h'.get? e=some u)
  (new:ObjOk P w (upd H x o') h' x o'):HOk P w (upd H x o') h':=fun b u q=>by
 have nown:∀ c y,H c=some (.own y)->c ≠ x:=fun c y r z=>by subst z;rw [r] at mu;exact mu
 have ntup:∀ c xs,H c=some (.tup xs)->c ≠ x:=fun c xs r z=>by subst z;rw [r] at mu;exact mu
 by_cases hb:b=x
 ·subst hb;rw [upd_same] at q;cases q;exact new
 ·rw [upd_ne hb] at q
  by_cases hbe:b=e
  ·have q':H b=some (.own x):=by
    rcases he with z | z
    ·exact absurd (hbe.trans z) hb
    ·rw [hbe];exact z
   rw [q] at q';cases q'
   obtain ⟨v,hv⟩:=heo
   exact ⟨v,by rw [hbe];exact hv⟩
  ·refine (ok b u q).stay (fun c v hc r=>k c v ?_ r) (fun c r=>by rw [upd_ne (nown c b r)];exact r) fun c xs r=>by rw [upd_ne (ntup c xs r)];exact r
   rcases hc with rfl | hc
   ·exact hbe
   ·rintro rfl
    rcases he with z | z
    ·exact nown c b hc z
    ·rw [hc] at z;cases z;exact hb rfl
end
structure Un (fs ex:List Addr) (H H':Hp) (h h':Heap):Prop where
 keep:∀ b o,h.get? b=some o->H b=none->b ∉ fs->b ∉ ex->h'.get? b=some o
 slot:∀ b o,h.get? b=some o->H b=none->b ∈ fs->b ∉ ex->∃ sl,h'.get? b=some { o with slots:=sl }
 free:∀ b o,h.get? b=some o->H b=none->b ∉ ex->H' b=none
 there:∀ b o,h.get? b=some o->b ∉ ex->∃ o',h'.get? b=some o'
 tups:∀ b xs,H b=some (.tup xs)->H' b=some (.tup xs)
 frzs:∀ b o u,H b=some (.frz o u)->H' b=some (.frz o u)
 tbls:∀ b ps,H b=some (.tbl ps)->∃ more,H' b=some (.tbl (ps ++ more))
section
variable {fs fs' ex ex':List Addr} {H H1 H2:Hp} {h h1 h2 h':Heap} {a x e:Addr} {o:HO}
theorem Un.any (u:Un fs ex H H1 h h1) {b:Addr} {ob:Obj} (q:h.get? b=some ob) (n:H b=none) (hx:b ∉ ex):∃ sl,h1.get? b=some { ob with slots:=sl }:=by
 by_cases hb:b ∈ fs
 ·exact u.slot b ob q n hb hx
 ·exact ⟨ob.slots,u.keep b ob q n hb hx⟩
theorem Un.kept (k:∀ b u,h.get? b=some u->h'.get? b=some u):Un fs ex H H h h':=
 ⟨fun b ob q _ _ _=>k b ob q,fun b ob q _ _ _=>⟨ob.slots,k b ob q⟩,fun _ _ _ n _=>n,fun b ob q _=>⟨ob,k b ob q⟩,fun _ _ q=>q,fun _ _ _ q=>q,fun _ ps q=>⟨#[],by rw [q];simp⟩⟩
theorem Un.refl:Un fs ex H H h h:=Un.kept fun _ _ q=>q
theorem Un.laid (k:∀ b u,h.get? b=some u->h'.get? b=some u) (hp:h.objs.size <= a) (hn:H a=none):Un fs ex H (upd H a o) h h' where
 keep:=fun b u q _ _ _=>k b u q
 slot:=fun b u q _ _ _=>⟨u.slots,k b u q⟩
 free:=fun b u q n _=>by rw [upd_ne (Nat.ne_of_lt (Nat.lt_of_lt_of_le (Heap.lt_size q) hp))];exact n
 there:=fun b u q _=>⟨u,k b u q⟩
 tups:=fun b xs q=>by rw [upd_ne (ne_of_none q hn)];exact q
 frzs:=fun b u xs q=>by rw [upd_ne (ne_of_none q hn)];exact q
 tbls:=fun b ps q=>⟨#[],by rw [upd_ne (ne_of_none q hn),q];simp⟩
theorem Un.write (mu:Mut (H x)) (he:e=x \/ H e=some (.own x)) (k:∀ b u,b ≠ e->h.get? b=some u->h'.get? b=some u) (heo:∃ u,h'.get? e=some u):Un fs ex H (upd H x o) h h':=by
 have hx:∀ b,H b=none->b ≠ x:=fun b n z=>by subst z;rw [n] at mu;exact mu
 have hb:∀ b,H b=none->b ≠ e:=fun b n z=>by
  subst z
  rcases he with r | r
  ·exact hx b n r
  ·rw [n] at r;cases r
 have hm:∀ b u,H b=some u->¬ Mut (some u)->b ≠ x:=fun b u q nm z=>by subst z;rw [q] at mu;exact nm mu
 refine ⟨fun b u q n _ _=>k b u (hb b n) q,fun b u q n _ _=>⟨u.slots,k b u (hb b n) q⟩,fun b u q n _=>by rw [upd_ne (hx b n)];exact n,fun b u q _=>?_,
  fun b xs q=>by rw [upd_ne (hm b _ q fun z=>z)];exact q,fun b u xs q=>by rw [upd_ne (hm b _ q fun z=>z)];exact q,fun b ps q=>⟨#[],by rw [upd_ne (hm b _ q fun z=>z),q];simp⟩⟩
 by_cases hbe:b=e
 ·subst hbe;exact heo
 ·exact ⟨u,k b u hbe q⟩
end
def trk (h:Heap) (H:Hp):List Addr:=(List.range h.objs.size).filter fun a=>(H a).isSome
def hidT (h:Heap) (H:Hp):Heap:=PySem.W.hideAll h (trk h H)
theorem hidT_size (h:Heap) (H:Hp):(hidT h H).objs.size=h.objs.size:=PySem.W.hideAll_size _ _
theorem hidT_get {h:Heap} {H:Hp} {b:Addr} {o:Obj} (e:h.get? b=some o) (n:H b=none):(hidT h H).get? b=some o:=
 PySem.W.hideAll_get _ e fun hm=>by
  have q:(H b).isSome=true:=(List.mem_filter.mp hm).2
  rw [n] at q;simp at q
theorem of_hidT {h:Heap} {H:Hp} {b:Addr} {o:Obj} (e:(hidT h H).get? b=some o):h.get? b=some o/\H b=none:=by
 have e':h.get? b=some o:=PySem.W.of_hideAll (trk h H) e
 refine ⟨e',?_⟩
 cases q:H b with
 | none=>rfl
 | some x=>
  have hm:b ∈ trk h H:=List.mem_filter.mpr ⟨List.mem_range.mpr (Heap.lt_size e'),by simp [q]⟩
  have z:(hidT h H).get? b=none:=PySem.W.hideAll_none (trk h H) hm
  rw [z] at e;cases e
end L2
namespace L2
open PySem PySem.Spec PyProof.Rows
structure Mod (K:PySem.W.Frag) (mg:Str->Option Value) (base:Heap):Prop where
 kin:K.In base
 glob:base.Ns mainGlobals mg
 blt:∃ mb,base.Ns builtinsNs mb/\∀ x:Str,x ≠ "__name__"->mb x=bootBuiltins x
 nolimit:base.NoLimit
structure Cx where
 prog:Program
 w:World
 K:PySem.W.Frag
 mg:Str->Option Value
 base:Heap
 A:Around
 N:List Str
 s₀:Shared
 H₀:Hp
 env:Env
 outer:List Env
 stack:List Env
 ex:List Addr
 fn:Str->Bool
 calm:Bool
 pn:List (Addr × Obj)
 xe:Value->Shared->Prop
def frs (l:List Env):List Addr:=l.filterMap (·.frame)
abbrev Cx.fs (X:Cx):List Addr:=frs X.outer
def Vis (sc:Scope) (x:Str):Prop:=sc.names.lookup x=some .local \/ sc.names.lookup x=some .cell \/ sc.names.lookup x=some .free
def Loc (sc:Scope) (x:Str):Prop:=sc.names.lookup x=some .local \/ sc.names.lookup x=some .cell
def Look (env:Env) (h:Heap) (m:Str->Option Value) (x:Str) (u:Value):Prop:=
 (env.kindOf x=some .local/\m x=some u) \/ ((env.kindOf x=some .cell \/ env.kindOf x=some .free)/\∃ c,env.cells.lookup x=some c/\h.IsCell c (some u))
structure Cx.Ok (X:Cx):Prop where
 mod:Mod X.K X.mg X.base
 kind:X.env.scope.kind=.function
 glob:X.env.globals=mainGlobals
 blt:X.env.builtins=builtinsNs
 above:X.s₀.heap.objs.size <= X.env.locals
 inj:∀ x y c,X.env.cells.lookup x=some c->X.env.cells.lookup y=some c->x=y
 has:∀ x,(X.env.kindOf x=some .cell \/ X.env.kindOf x=some .free)->∃ c,X.env.cells.lookup x=some c
 cab:∀ x c,X.fn x=true->X.env.cells.lookup x=some c->X.s₀.heap.objs.size <= c
 hd:X.calm=true->X.A.handled=none
 frames:X.A.frames=some X.stack
 stk:X.stack=X.outer \/ (X.stack=X.env :: X.outer/\X.env.frame=some X.env.locals)
 exf:∀ b ∈ X.ex,b ≠ X.env.locals/\∀ x c,X.env.cells.lookup x=some c->c ≠ b
 bs:∀ b o,X.base.get? b=some o->X.s₀.heap.get? b=some o/\X.H₀ b=none
 bsz:X.base.objs.size <= X.s₀.heap.objs.size
 noex:∀ b o,X.base.get? b=some o->b ∉ X.ex
 exfs:∀ b ∈ X.ex,b ∉ X.fs
 funs:X.s₀.heap.FunFrames X.base X.outer
 frf:∀ b ∈ X.fs,X.H₀ b=none
structure Inv (X:Cx) (pins:List (Addr × Obj)) (σ:List (Option V)) (H:Hp) (s:Shared):Prop where
 ok:X.Ok
 os:s.os=X.s₀.os
 bare:AllBare s.gens
 base:Un X.fs X.ex X.H₀ H X.s₀.heap s.heap
 loc:∃ m,s.heap.Ns X.env.locals m/\∀ (i:Nat) (x:Str) (v:V),X.N[i]?=some x->σ[i]?=some (some v)->Vis X.env.scope x->∃ u,RelV v u/\Look X.env s.heap m x u
 cell:∀ x c,X.env.cells.lookup x=some c->∃ v,s.heap.IsCell c v
 free:H X.env.locals=none
 freeC:∀ x c,X.env.cells.lookup x=some c->H c=none
 pin:∀ p ∈ X.pn ++ pins,s.heap.get? p.1=some p.2/\H p.1=none/\p.1 ≠ X.env.locals/\p.1 ∉ X.fs/\∀ v,p.2.data ≠ .cell v
 hok:HOk X.prog X.w H s.heap
 len:σ.length=X.N.length
section
variable {X:Cx} {pins:List (Addr × Obj)} {σ:List (Option V)} {H H':Hp} {s:Shared} {h':Heap}
theorem Cx.Ok.nofr (ok:X.Ok) {b:Addr} {o:Obj} (e:X.base.get? b=some o):b ∉ X.fs:=fun hb=>by
 have:=(ok.funs.mem hb).1
 rw [e] at this;cases this
theorem Inv.bs (I:Inv X pins σ H s):∀ b o,X.base.get? b=some o->s.heap.get? b=some o/\H b=none:=fun b o e=>
 ⟨I.base.keep b o (I.ok.bs b o e).1 (I.ok.bs b o e).2 (I.ok.nofr e) (I.ok.noex b o e),I.base.free b o (I.ok.bs b o e).1 (I.ok.bs b o e).2 (I.ok.noex b o e)⟩
theorem Inv.bk (I:Inv X pins σ H s):∀ b o,X.base.get? b=some o->s.heap.get? b=some o:=fun b o e=>(I.bs b o e).1
theorem Inv.mod (I:Inv X pins σ H s):Mod X.K X.mg X.base:=I.ok.mod
theorem Inv.kIn (I:Inv X pins σ H s):X.K.In s.heap:=I.ok.mod.kin.keeps I.bk
theorem Inv.lt (I:Inv X pins σ H s):X.env.locals < s.heap.objs.size:=let ⟨_,hn,_⟩:=I.loc;hn.lt
theorem Inv.sz (I:Inv X pins σ H s):X.s₀.heap.objs.size <= s.heap.objs.size:=Nat.le_trans I.ok.above (Nat.le_of_lt I.lt)
theorem Inv.nofs (I:Inv X pins σ H s) {a:Addr} (h:s.heap.objs.size <= a):a ∉ X.fs:=fun hb=>by
 obtain ⟨_,o,ho,_⟩:=I.ok.funs.mem hb
 exact absurd (Nat.lt_of_lt_of_le (Heap.lt_size ho) (Nat.le_trans I.sz h)) (Nat.lt_irrefl _)
theorem Inv.cne (I:Inv X pins σ H s):∀ x c,X.env.cells.lookup x=some c->c ≠ X.env.locals:=fun x c e z=>by
 obtain ⟨v,o,ho,hd⟩:=I.cell x c e
 obtain ⟨m,⟨o',es,ep,ho',hd',_⟩,_⟩:=I.loc
 rw [z,ho'] at ho;cases ho;rw [hd'] at hd;cases hd
theorem Inv.funs (I:Inv X pins σ H s):s.heap.FunFrames X.base X.outer:=by
 have all:∀ (l:List Env),(∀ b ∈ frs l,b ∈ X.fs)->X.s₀.heap.FunFrames X.base l->s.heap.FunFrames X.base l:=by
  intro l
  induction l with
  | nil=>intro _ _;trivial
  | cons env r ih=>
   intro hs hl
   obtain ⟨hk,⟨L,o,hf,hn,ho,hd⟩,hr⟩:=hl
   have hL:L ∈ X.fs:=hs L (by unfold frs;rw [List.filterMap_cons,hf];exact List.mem_cons_self)
   obtain ⟨sl,e⟩:=I.base.slot L o ho (I.ok.frf L hL) hL fun z=>I.ok.exfs L z hL
   exact ⟨hk,⟨L,_,hf,hn,e,hd⟩,ih (fun b hb=>hs b (by unfold frs;rw [List.filterMap_cons,hf];exact List.mem_cons_of_mem _ hb)) hr⟩
 exact all X.outer (fun _ hb=>hb) I.ok.funs
theorem Inv.stack (I:Inv X pins σ H s):s.heap.FunFrames X.base X.stack:=by
 rcases I.ok.stk with e | ⟨e,hf⟩
 ·rw [e];exact I.funs
 ·rw [e]
  obtain ⟨m,hn,_⟩:=I.loc
  refine .cons (by rw [I.ok.kind];decide) hf hn ?_ I.funs
  exact Heap.get?_none_of_le (Nat.le_trans I.ok.bsz I.ok.above)
theorem Inv.stkSub (I:Inv X pins σ H s):∀ b ∈ frs X.stack,b ∈ X.env.locals :: X.fs:=fun b hb=>by
 rcases I.ok.stk with e | ⟨e,hf⟩
 ·rw [e] at hb;exact List.mem_cons_of_mem _ hb
 ·rw [e] at hb
  unfold frs at hb
  rw [List.filterMap_cons,hf] at hb
  exact hb
theorem Inv.stkFree (I:Inv X pins σ H s):∀ b ∈ frs X.stack,H b=none:=fun b hb=>by
 rcases List.mem_cons.mp (I.stkSub b hb) with e | hb
 ·rw [e];exact I.free
 ·obtain ⟨_,o,ho,_⟩:=I.ok.funs.mem hb
  exact I.base.free b o ho (I.ok.frf b hb) fun z=>I.ok.exfs b z hb
theorem Inv.step {g':Array GenState} {t':Nat} {d':Drawn} {ch:List Addr} (I:Inv X pins σ H s)
  (hch:∀ b ∈ ch,(b ∈ X.ex \/ X.s₀.heap.objs.size <= b)/\b ≠ X.env.locals/\(∀ x c,X.env.cells.lookup x=some c->c ≠ b)/\∀ p ∈ X.pn ++ pins,p.1 ≠ b)
  (keep:∀ b o,b ≠ X.env.locals->b ∉ X.fs->b ∉ ch->s.heap.get? b=some o->H b=none->h'.get? b=some o)
  (slot:∀ b o,b ≠ X.env.locals->b ∈ X.fs->b ∉ ch->s.heap.get? b=some o->H b=none->∃ sl,h'.get? b=some { o with slots:=sl }) (free:∀ b o,b ∉ ch->s.heap.get? b=some o->H b=none->H' b=none)
  (there:∀ b o,b ∉ ch->s.heap.get? b=some o->∃ o',h'.get? b=some o')
  (tups:∀ b xs,H b=some (.tup xs)->H' b=some (.tup xs)) (frzs:∀ b o u,H b=some (.frz o u)->H' b=some (.frz o u)) (tbls:∀ b ps,H b=some (.tbl ps)->∃ more,H' b=some (.tbl (ps ++ more)))
  (ns:∀ m,s.heap.Ns X.env.locals m->h'.Ns X.env.locals m) (hok:HOk X.prog X.w H' h') (hg:AllBare g') :
  Inv X pins σ H' { s with heap:=h',gens:=g',drawn:=d',toks:=t' }:=by
 have neL:∀ b o,X.s₀.heap.get? b=some o->b ≠ X.env.locals:=fun b o e=>Nat.ne_of_lt (Nat.lt_of_lt_of_le (Heap.lt_size e) I.ok.above)
 have neC:∀ b o,X.s₀.heap.get? b=some o->b ∉ X.ex->b ∉ ch:=fun b o e hx hb=>by
  rcases (hch b hb).1 with z | z
  ·exact hx z
  ·exact absurd (Nat.lt_of_lt_of_le (Heap.lt_size e) z) (Nat.lt_irrefl _)
 have cellK:∀ x c,X.env.cells.lookup x=some c->∀ v,s.heap.IsCell c v->h'.IsCell c v:=fun x c e v ⟨o,ho,hd⟩=>by
  have nch:c ∉ ch:=fun z=>(hch c z).2.2.1 x c e rfl
  by_cases hc:c ∈ X.fs
  ·obtain ⟨sl,q⟩:=slot c o (I.cne x c e) hc nch ho (I.freeC x c e)
   exact ⟨_,q,hd⟩
  ·exact ⟨o,keep c o (I.cne x c e) hc nch ho (I.freeC x c e),hd⟩
 refine ⟨I.ok,I.os,hg,⟨fun b o e n hb hx=>?_,fun b o e n hb hx=>?_,fun b o e n hx=>?_,fun b o e hx=>?_,fun b xs e=>tups b xs (I.base.tups b xs e),fun b o xs e=>frzs b o xs (I.base.frzs b o xs e),fun b ps e=>?_⟩,?_,fun x c e=>?_,?_,fun x c e=>?_,fun p hp=>?_,hok,I.len⟩
 ·exact keep b o (neL b o e) hb (neC b o e hx) (I.base.keep b o e n hb hx) (I.base.free b o e n hx)
 ·obtain ⟨sl,e1⟩:=I.base.slot b o e n hb hx
  obtain ⟨sl',e2⟩:=slot b _ (neL b o e) hb (neC b o e hx) e1 (I.base.free b o e n hx)
  exact ⟨sl',e2⟩
 ·obtain ⟨o',e1⟩:=I.base.there b o e hx
  exact free b o' (neC b o e hx) e1 (I.base.free b o e n hx)
 ·obtain ⟨o',e1⟩:=I.base.there b o e hx
  exact there b o' (neC b o e hx) e1
 ·obtain ⟨m1,e1⟩:=I.base.tbls b ps e
  obtain ⟨m2,e2⟩:=tbls b _ e1
  exact ⟨m1 ++ m2,by rw [e2,Array.append_assoc]⟩
 ·obtain ⟨m,hn,hl⟩:=I.loc
  refine ⟨m,ns m hn,fun i x v e1 e2 e3=>?_⟩
  obtain ⟨u,r,l⟩:=hl i x v e1 e2 e3
  refine ⟨u,r,?_⟩
  rcases l with l | ⟨k,c,e,z⟩
  ·exact .inl l
  ·exact .inr ⟨k,c,e,cellK x c e _ z⟩
 ·obtain ⟨v,z⟩:=I.cell x c e
  exact ⟨v,cellK x c e v z⟩
 ·obtain ⟨m,⟨o,_,_,ho,_⟩,_⟩:=I.loc
  exact free _ o (fun z=>(hch _ z).2.1 rfl) ho I.free
 ·obtain ⟨v,o,ho,hd⟩:=I.cell x c e
  exact free c o (fun z=>(hch c z).2.2.1 x c e rfl) ho (I.freeC x c e)
 ·obtain ⟨e,n,ne,nf,d⟩:=I.pin p hp
  have nch:p.1 ∉ ch:=fun z=>(hch p.1 z).2.2.2 p hp rfl
  exact ⟨keep p.1 p.2 ne nf nch e n,free p.1 p.2 nch e n,ne,nf,d⟩
theorem Inv.un {t':Nat} (I:Inv X pins σ H s) (u:Un X.fs [] H H' s.heap h') (hok:HOk X.prog X.w H' h'):Inv X pins σ H' { s with heap:=h',toks:=t' }:=by
 obtain ⟨m,⟨o,es,ep,ho,r⟩,_⟩:=id I.loc
 obtain ⟨sl,hL⟩:=u.any ho I.free (by simp)
 exact I.step (g':=s.gens) (d':=s.drawn) (ch:=[]) (fun _ z=>nomatch z) (fun b o _ hb _ e n=>u.keep b o e n hb (by simp)) (fun b o _ hb _ e n=>u.slot b o e n hb (by simp)) (fun b o _ e n=>u.free b o e n (by simp)) (fun b o _ e=>u.there b o e (by simp)) u.tups u.frzs u.tbls (fun m' hm=>by
  obtain ⟨o',es',ep',ho',r'⟩:=hm
  rw [ho] at ho';cases ho'
  exact ⟨_,es',ep',hL,r'⟩) hok I.bare
theorem Inv.call {g':Array GenState} {t':Nat} {d':Drawn} {ch:List Addr} (I:Inv X pins σ H s) (u:Un (frs X.stack) ch H H' s.heap h') (hok:HOk X.prog X.w H' h') (hg:AllBare g')
  (hch:∀ b ∈ ch,(b ∈ X.ex \/ X.s₀.heap.objs.size <= b)/\b ≠ X.env.locals/\(∀ x c,X.env.cells.lookup x=some c->c ≠ b)/\∀ p ∈ X.pn ++ pins,p.1 ≠ b) :
  Inv X pins σ H' { s with heap:=h',gens:=g',drawn:=d',toks:=t' }:=by
 obtain ⟨m,⟨o,es,ep,ho,r⟩,_⟩:=id I.loc
 obtain ⟨sl,hL⟩:=u.any ho I.free fun z=>(hch _ z).2.1 rfl
 exact I.step (ch:=ch) hch (fun b o hL hb hc e n=>u.keep b o e n (fun z=>(List.mem_cons.mp (I.stkSub b z)).elim hL hb) hc) (fun b o _ _ hc e n=>u.any e n hc) (fun b o hc e n=>u.free b o e n hc) (fun b o hc e=>u.there b o e hc) u.tups u.frzs u.tbls (fun m' hm=>by
  obtain ⟨o',es',ep',ho',r'⟩:=hm
  rw [ho] at ho';cases ho'
  exact ⟨_,es',ep',hL,r'⟩) hok hg
theorem Inv.turned {t':Nat} {it:Addr} (I:Inv X pins σ H s) (k:∀ b o,b ≠ it->s.heap.get? b=some o->h'.get? b=some o) (hn:H it=none) (hL:it ≠ X.env.locals)
  (h1:it ∈ X.ex \/ X.s₀.heap.objs.size <= it) (h2:∀ x c,X.env.cells.lookup x=some c->c ≠ it) (h3:∀ p ∈ X.pn ++ pins,p.1 ≠ it):Inv X pins σ H { s with heap:=h',toks:=t' }:=by
 have nit:∀ b u,H b=some u->b ≠ it:=fun b u e z=>by rw [z,hn] at e;cases e
 refine I.step (g':=s.gens) (d':=s.drawn) (ch:=[it]) (fun b hb=>?_) (fun b o _ _ hc e _=>k b o (fun z=>hc (by simp [z])) e) (fun b o _ _ hc e _=>⟨o.slots,k b o (fun z=>hc (by simp [z])) e⟩) (fun _ _ _ _ n=>n)
  (fun b o hc e=>⟨o,k b o (fun z=>hc (by simp [z])) e⟩) (fun _ _ e=>e) (fun _ _ _ e=>e) (fun b ps e=>⟨#[],by rw [e];simp⟩) (fun m hm=>?_) (fun b u e=>?_) I.bare
 ·have e:b=it:=by simpa using hb
  subst e
  exact ⟨h1,hL,h2,h3⟩
 ·obtain ⟨o,es,ep,ho,r⟩:=hm
  exact ⟨o,es,ep,k _ o (Ne.symm hL) ho,r⟩
 ·refine (I.hok b u e).stay (fun c v hc q=>k c v ?_ q) (fun _ q=>q) fun _ _ q=>q
  rcases hc with z | z
  ·rw [z];exact nit b u e
  ·exact nit c _ z
theorem Inv.tok (I:Inv X pins σ H s) (t:Nat):Inv X pins σ H { s with toks:=t }:=I.un (h':=s.heap) (t':=t) Un.refl I.hok
theorem Inv.kept {t':Nat} (I:Inv X pins σ H s) (k:∀ b u,s.heap.get? b=some u->h'.get? b=some u):Inv X pins σ H { s with heap:=h',toks:=t' }:=I.un (Un.kept k) (I.hok.kept k)
theorem Inv.laid {a:Addr} {o:HO} {t':Nat} (I:Inv X pins σ H s) (k:∀ b u,s.heap.get? b=some u->h'.get? b=some u) (hp:s.heap.objs.size <= a) (new:ObjOk X.prog X.w (upd H a o) h' a o) :
  Inv X pins σ (upd H a o) { s with heap:=h',toks:=t' }:=I.un (Un.laid k hp (I.hok.fresh hp)) (I.hok.laid k hp new)
theorem Inv.write {x e:Addr} {o:HO} {t':Nat} (I:Inv X pins σ H s) (mu:Mut (H x)) (he:e=x \/ H e=some (.own x)) (k:∀ b u,b ≠ e->s.heap.get? b=some u->h'.get? b=some u) (heo:∃ u,h'.get? e=some u)
  (new:ObjOk X.prog X.w (upd H x o) h' x o):Inv X pins σ (upd H x o) { s with heap:=h',toks:=t' }:=I.un (Un.write mu he k heo) (I.hok.write mu he k heo new)
theorem Inv.pins_of {pins':List (Addr × Obj)} (I:Inv X pins σ H s) (h:∀ p ∈ pins',s.heap.get? p.1=some p.2/\H p.1=none/\p.1 ≠ X.env.locals/\p.1 ∉ X.fs/\∀ v,p.2.data ≠ .cell v):Inv X pins' σ H s:=
 ⟨I.ok,I.os,I.bare,I.base,I.loc,I.cell,I.free,I.freeC,fun p hp=>(List.mem_append.mp hp).elim (fun z=>I.pin p (List.mem_append_left _ z)) (h p),I.hok,I.len⟩
theorem nodup_ix {N:List Str} (hN:N.Nodup) {i j:Nat} {x:Str} (a:N[i]?=some x) (b:N[j]?=some x):i=j:=by
 obtain ⟨h1,e1⟩:=List.getElem?_eq_some_iff.mp a
 obtain ⟨h2,e2⟩:=List.getElem?_eq_some_iff.mp b
 exact (List.getElem_inj hN).mp (e1.trans e2.symm)
theorem store_ok2 {M:Model} {A:Around} {E:Value->Shared->Prop} {i:Nat} {x:Str} {v:V} {u:Value} {Q:Unit->Shared->Prop} (I:Inv X pins σ H s) (hN:X.N.Nodup) (hi:X.N[i]?=some x) (hx:Loc X.env.scope x) (r:RelV v u)
  (h:∀ s',Inv X pins (σ.set i (some v)) H s'->(∃ a,Heap.SameBut a s.heap s'.heap/\(a=X.env.locals \/ X.env.cells.lookup x=some a))->Q () s') (hf:X.fn x=true \/ X.env.scope.names.lookup x=some .local:=by first | exact .inl rfl | exact .inr rfl | assumption):wpAny M A (storeName X.env x u) Q E s:=by
 obtain ⟨m,hn,hl⟩:=id I.loc
 have hcls:(X.env.scope.kind == .class || (X.env.scope.kind == .module && X.env.locals != X.env.globals))=false:=by rw [I.ok.kind];rfl
 have hiσ:i < σ.length:=by rw [I.len];exact (List.getElem?_eq_some_iff.mp hi).1
 have cne:=I.cne
 have tracked:∀ {a:Addr} {h':Heap},(∃ o,s.heap.get? a=some o/\H a=none)->Heap.SameBut a s.heap h'->HOk X.prog X.w H h':=fun {a h'} ha hs b ob e=>by
  obtain ⟨_,_,hfree⟩:=ha
  refine (I.hok b ob e).stay (fun c w' hc q=>(hs.2 c ?_).trans q) (fun _ q=>q) fun _ _ q=>q
  rintro rfl
  rcases hc with rfl | hc
  ·rw [hfree] at e;cases e
  ·rw [hfree] at hc;cases hc
 rcases hx with hk | hk
 ·refine wpAny_storeName_local hk hn (fun h' hn' hs=>?_) hcls
  obtain ⟨oL,_,_,hoL,_⟩:=id hn
  refine h _ ⟨I.ok,I.os,I.bare,⟨fun b o e n hb hx=>?_,fun b o e n hb hx=>?_,I.base.free,fun b o e hx=>?_,I.base.tups,I.base.frzs,I.base.tbls⟩,⟨_,hn',fun j y v' e1 e2 e3=>?_⟩,fun y c e=>?_,I.free,I.freeC,fun p hp=>?_,tracked ⟨oL,hoL,I.free⟩ hs,by simpa using I.len⟩ ⟨_,hs,.inl rfl⟩
  ·exact (hs.2 b (Nat.ne_of_lt (Nat.lt_of_lt_of_le (Heap.lt_size e) I.ok.above))).trans (I.base.keep b o e n hb hx)
  ·obtain ⟨sl,e1⟩:=I.base.slot b o e n hb hx
   exact ⟨sl,(hs.2 b (Nat.ne_of_lt (Nat.lt_of_lt_of_le (Heap.lt_size e) I.ok.above))).trans e1⟩
  ·obtain ⟨o',e1⟩:=I.base.there b o e hx
   exact ⟨o',(hs.2 b (Nat.ne_of_lt (Nat.lt_of_lt_of_le (Heap.lt_size e) I.ok.above))).trans e1⟩
  ·by_cases hj:j=i
   ·subst hj
    rw [hi] at e1;cases e1
    rw [List.getElem?_set_self hiσ] at e2
    cases e2
    exact ⟨u,r,.inl ⟨hk,by simp⟩⟩
   ·rw [List.getElem?_set_ne (Ne.symm hj)] at e2
    obtain ⟨u',r',q⟩:=hl j y v' e1 e2 e3
    refine ⟨u',r',?_⟩
    rcases q with ⟨k,e⟩ | ⟨k,c,e,z⟩
    ·refine .inl ⟨k,?_⟩
     have:y ≠ x:=fun e=>hj (nodup_ix hN e1 (e ▸ hi))
     simp [this,e]
    ·exact .inr ⟨k,c,e,z.sameBut hs (cne y c e)⟩
  ·obtain ⟨w',z⟩:=I.cell y c e
   exact ⟨w',z.sameBut hs (cne y c e)⟩
  ·obtain ⟨e,n,ne,nf,d⟩:=I.pin p hp
   exact ⟨(hs.2 p.1 ne).trans e,n,ne,nf,d⟩
 ·have hfn:X.fn x=true:=by
   rcases hf with z | z
   ·exact z
   ·rw [z] at hk;cases hk
  obtain ⟨c,hc⟩:=I.ok.has x (.inl hk)
  obtain ⟨w',z⟩:=I.cell x c hc
  refine wpAny_storeName_cell I.ok.kind hk hc z (fun h' hc' hs=>?_)
  obtain ⟨oc,hoc,hocd⟩:=id z
  refine h { s with heap:=h' } ⟨I.ok,I.os,I.bare,⟨fun b o e n hb hx=>?_,fun b o e n hb hx=>?_,I.base.free,fun b o e hx=>?_,I.base.tups,I.base.frzs,I.base.tbls⟩,⟨m,hn.sameBut hs (Ne.symm (cne x c hc)),fun j y v' e1 e2 e3=>?_⟩,fun y c' e=>?_,I.free,I.freeC,fun p hp=>?_,tracked ⟨oc,hoc,I.freeC x c hc⟩ hs,by simpa using I.len⟩ ⟨c,hs,.inr hc⟩
  ·exact (hs.2 b (Nat.ne_of_lt (Nat.lt_of_lt_of_le (Heap.lt_size e) (I.ok.cab x c hfn hc)))).trans (I.base.keep b o e n hb hx)
  ·obtain ⟨sl,e1⟩:=I.base.slot b o e n hb hx
   exact ⟨sl,(hs.2 b (Nat.ne_of_lt (Nat.lt_of_lt_of_le (Heap.lt_size e) (I.ok.cab x c hfn hc)))).trans e1⟩
  ·obtain ⟨o',e1⟩:=I.base.there b o e hx
   exact ⟨o',(hs.2 b (Nat.ne_of_lt (Nat.lt_of_lt_of_le (Heap.lt_size e) (I.ok.cab x c hfn hc)))).trans e1⟩
  ·by_cases hj:j=i
   ·subst hj
    rw [hi] at e1;cases e1
    rw [List.getElem?_set_self hiσ] at e2
    cases e2
    exact ⟨u,r,.inr ⟨.inl hk,c,hc,hc'⟩⟩
   ·rw [List.getElem?_set_ne (Ne.symm hj)] at e2
    obtain ⟨u',r',q⟩:=hl j y v' e1 e2 e3
    refine ⟨u',r',?_⟩
    rcases q with q | ⟨k,c',e,z'⟩
    ·exact .inl q
    ·refine .inr ⟨k,c',e,z'.sameBut hs ?_⟩
     rintro rfl
     exact hj (nodup_ix hN e1 (I.ok.inj _ _ _ e hc ▸ hi))
  ·by_cases hcc:c'=c
   ·subst hcc;exact ⟨_,hc'⟩
   ·obtain ⟨w2,z2⟩:=I.cell y c' e
    exact ⟨w2,z2.sameBut hs hcc⟩
  ·obtain ⟨e,n,ne,nf,d⟩:=I.pin p hp
   refine ⟨(hs.2 p.1 ?_).trans e,n,ne,nf,d⟩
   intro q
   rw [q,hoc] at e
   have q':oc=p.2:=Option.some.inj e
   exact d w' (by rw [<- q'];exact hocd)
theorem store_ok {M:Model} {A:Around} {E:Value->Shared->Prop} {i:Nat} {x:Str} {v:V} {u:Value} {Q:Unit->Shared->Prop} (I:Inv X pins σ H s) (hN:X.N.Nodup) (hi:X.N[i]?=some x) (hx:Loc X.env.scope x) (r:RelV v u)
  (h:∀ s',Inv X pins (σ.set i (some v)) H s'->Q () s') (hf:X.fn x=true \/ X.env.scope.names.lookup x=some .local:=by first | exact .inl rfl | exact .inr rfl | assumption):wpAny M A (storeName X.env x u) Q E s:=
 store_ok2 I hN hi hx r (fun s' I' _=>h s' I') hf
theorem Inv.call' {s':Shared} {ch:List Addr} (I:Inv X pins σ H s) (ho:s'.os=s.os) (u:Un (frs X.stack) ch H H' s.heap s'.heap) (hok:HOk X.prog X.w H' s'.heap) (hg:AllBare s'.gens)
  (hch:∀ b ∈ ch,(b ∈ X.ex \/ X.s₀.heap.objs.size <= b)/\b ≠ X.env.locals/\(∀ x c,X.env.cells.lookup x=some c->c ≠ b)/\∀ p ∈ X.pn ++ pins,p.1 ≠ b):Inv X pins σ H' s':=by
 obtain ⟨h',g',d',t',o'⟩:=s'
 have e:o'=s.os:=ho
 subst e
 exact I.call (g':=g') (t':=t') (d':=d') u hok hg hch
end
abbrev XK:=Value->Option Addr->Hp->Prop
abbrev St:=List (Option V)
abbrev VK:=V->Hp->Prop
abbrev TE:=St->Hp->VK->Prop
abbrev TT:=St->Hp->(Bool->Hp->Prop)->Prop
abbrev TA:=St->Hp->(List V->Hp->Prop)->Prop
structure Ends where
 nx:St->Hp->Prop
 rt:VK
 bk:St->Hp->Prop:=fun _ _=>False
 ct:St->Hp->Prop:=fun _ _=>False
abbrev TS:=Ends->St->Hp->Prop
def EP (X:Cx) (pins:List (Addr × Obj)) (σ:St) (Q:VK) (u:Value) (s':Shared):Prop:=∃ v H',Inv X pins σ H' s'/\RelV v u/\Q v H'
def TP (X:Cx) (pins:List (Addr × Obj)) (σ:St) (Q:Bool->Hp->Prop) (b:Bool) (s':Shared):Prop:=∃ H',Inv X pins σ H' s'/\Q b H'
def AP (X:Cx) (pins:List (Addr × Obj)) (σ:St) (Q:List V->Hp->Prop) (us:List Value) (s':Shared):Prop:=∃ vs H',Inv X pins σ H' s'/\Vals vs us/\Q vs H'
def SP (X:Cx) (pins:List (Addr × Obj)) (D:Ends) (f:Flow) (s':Shared):Prop:=
 match f with
 | .next=>∃ σ' H',Inv X pins σ' H' s'/\D.nx σ' H'
 | .brk=>∃ σ' H',Inv X pins σ' H' s'/\D.bk σ' H'
 | .cont=>∃ σ' H',Inv X pins σ' H' s'/\D.ct σ' H'
 | .ret u=>∃ v σ' H',Inv X pins σ' H' s'/\RelV v u/\D.rt v H'
def PE (X:Cx) (e:Expr) (t:TE):Prop:=
 ∀ (pins:List (Addr × Obj)) (s:Shared) (σ:St) (H:Hp) (Q:VK),Inv X pins σ H s->t σ H Q->wpAny (model X.prog X.w) X.A (eval e X.env) (EP X pins σ Q) X.xe s
def PT (X:Cx) (e:Expr) (t:TT):Prop:=
 ∀ (pins:List (Addr × Obj)) (s:Shared) (σ:St) (H:Hp) (Q:Bool->Hp->Prop),Inv X pins σ H s->t σ H Q->wpAny (model X.prog X.w) X.A (isTrue e X.env (eval e X.env)) (TP X pins σ Q) X.xe s
def PW (X:Cx) (e:Expr) (t:TT):Prop:=
 ∀ (whole:Sem Value) (pins:List (Addr × Obj)) (s:Shared) (σ:St) (H:Hp) (Q:Bool->Hp->Prop),Inv X pins σ H s->t σ H Q->wpAny (model X.prog X.w) X.A (isTrue e X.env whole) (TP X pins σ Q) X.xe s
theorem PW.pt {X:Cx} {e:Expr} {t:TT} (h:PW X e t):PT X e t:=h _
def PA (X:Cx) (es:List Expr) (t:TA):Prop:=
 ∀ (pos:Pos) (pins:List (Addr × Obj)) (s:Shared) (σ:St) (H:Hp) (Q:List V->Hp->Prop),Inv X pins σ H s->t σ H Q->wpAny (model X.prog X.w) X.A (spliced (backTo pos (starEach es X.env))) (AP X pins σ Q) X.xe s
def PS (X:Cx) (st:Stmt) (t:TS):Prop:=
 ∀ (pins:List (Addr × Obj)) (s:Shared) (σ:St) (H:Hp) (D:Ends),Inv X pins σ H s->t D σ H->wpAny (model X.prog X.w) X.A (exec st X.env) (SP X pins D) X.xe s
def PSs (X:Cx) (st:List Stmt) (t:TS):Prop:=
 ∀ (pins:List (Addr × Obj)) (s:Shared) (σ:St) (H:Hp) (D:Ends),Inv X pins σ H s->t D σ H->wpAny (model X.prog X.w) X.A (execs st X.env) (SP X pins D) X.xe s
theorem thn {α:Type} {t:Sem α} {Q Q':α->Shared->Prop} {M:Model} {A:Around} {E:Value->Shared->Prop} {s:Shared} (h:wpAny M A t Q E s) (hQ:∀ a s,Q a s->Q' a s):wpAny M A t Q' E s:=wpAny_mono h hQ fun _ _ x=>x
end L2
namespace L2
open PySem PySem.Spec PyProof.Rows
section
variable {X:Cx}
def tVar (i:Nat):TE:=fun σ H Q=>∃ v,σ[i]?=some (some v)/\Q v H
def tC (v:V):TE:=fun _ H Q=>Q v H
theorem pe_var {i:Nat} {x:Str} {pos:Pos} (hN:X.N[i]?=some x) (hv:Vis X.env.scope x) (hd:(x == ("__debug__" : Str))=false:=by decide) (hcd:(x == ("__classdict__" : Str))=false:=by decide):PE X (.Name x pos) (tVar i):=by
 intro pins s σ H Q I h
 obtain ⟨v,e,h⟩:=h
 obtain ⟨m,hn,hl⟩:=I.loc
 obtain ⟨u,r,l⟩:=hl i x v hN e hv
 have fin:EP X pins σ Q u s:=⟨v,H,I,r,h⟩
 rcases l with ⟨hk,hm⟩ | ⟨hk,c,hc,hcell⟩
 ·exact wpAny_Name (wpAny_loadName_local I.ok.kind hk hn hm fin) hd
 ·rcases hk with hk | hk
  ·exact wpAny_Name (wpAny_loadName_cell I.ok.kind hk hc hcell fin) hd
  ·exact wpAny_Name (wpAny_loadName_free I.ok.kind hk hc hcell fin hcd) hd
theorem pe_int {i j pos}:PE X (.Constant (.int i) j pos) (tC (.int i)):=fun _ _ _ H _ I h=>wpAny_Constant_int ⟨.int i,H,I.tok _,⟨_,rfl⟩,h⟩
theorem pe_bl {b j pos}:PE X (.Constant (.bool b) j pos) (tC (.bl b)):=fun _ _ _ H _ I h=>Constant_bool ⟨.bl b,H,I,rfl,h⟩
theorem pe_non {j pos}:PE X (.Constant .none j pos) (tC .non):=fun _ _ _ H _ I h=>Constant_none ⟨.non,H,I,rfl,h⟩
theorem pe_str {x j pos}:PE X (.Constant (.str x) j pos) (tC (.str x)):=fun _ _ _ H _ I h=>Calls.Constant_str ⟨.str x,H,I.tok _,⟨_,rfl⟩,h⟩
def Gl (X:Cx) (x:Str):Prop:=X.env.kindOf x=some .globalImplicit
theorem ld_glob {E:Value->Shared->Prop} {pins:List (Addr × Obj)} {s:Shared} {σ:St} {H:Hp} {x:Str} {u:Value} {pos:Pos} {Q:Value->Shared->Prop} (I:Inv X pins σ H s) (hg:Gl X x) (hm:X.mg x=some u) (h:Q u s)
  (hd:(x == ("__debug__" : Str))=false:=by decide):wpAny (model X.prog X.w) X.A (eval (.Name x pos) X.env) Q E s:=
 Calls.Name_function_global I.ok.kind hg (Calls.loadGlobal_global (by rw [I.ok.glob];exact I.mod.glob.keeps I.bk) hm h) hd
theorem ld_blt {E:Value->Shared->Prop} {pins:List (Addr × Obj)} {s:Shared} {σ:St} {H:Hp} {x:Str} {u:Value} {pos:Pos} {Q:Value->Shared->Prop} (I:Inv X pins σ H s) (hg:Gl X x) (hm:X.mg x=none) (hv:bootBuiltins x=some u) (h:Q u s)
  (hn:x ≠ "__name__":=by decide) (hd:(x == ("__debug__" : Str))=false:=by decide):wpAny (model X.prog X.w) X.A (eval (.Name x pos) X.env) Q E s:=by
 obtain ⟨mb,h1,h2⟩:=I.mod.blt
 exact Calls.Name_function_global I.ok.kind hg (Calls.loadGlobal_builtin (by rw [I.ok.glob];exact I.mod.glob.keeps I.bk) hm (by rw [I.ok.blt];exact h1.keeps I.bk) ((h2 x hn).trans hv) h) hd
theorem pe_glob {x:Str} {v:V} {u:Value} {pos:Pos} (hg:Gl X x) (hm:X.mg x=some u) (r:RelV v u) (hd:(x == ("__debug__" : Str))=false:=by decide):PE X (.Name x pos) (tC v):=
 fun _ _ _ H _ I h=>ld_glob I hg hm ⟨v,H,I,r,h⟩ hd
theorem pe_bltn {x:Str} {v:V} {u:Value} {pos:Pos} (hg:Gl X x) (hm:X.mg x=none) (hv:bootBuiltins x=some u) (r:RelV v u) (hn:x ≠ "__name__":=by decide) (hd:(x == ("__debug__" : Str))=false:=by decide):PE X (.Name x pos) (tC v):=
 fun _ _ _ H _ I h=>ld_blt I hg hm hv ⟨v,H,I,r,h⟩ hn hd
variable {a b:Expr} {ta tb:TE} {pos:Pos}
def PC (X:Cx) (op:CmpOp) (a b:Expr) (t:TE):Prop:=
 ∀ (pins:List (Addr × Obj)) (s:Shared) (σ:St) (H:Hp) (Q:VK),Inv X pins σ H s->t σ H Q ->
  wpAny (model X.prog X.w) X.A (eval a X.env) (fun v s₁=>wpAny (model X.prog X.w) X.A (eval b X.env) (fun u s₂=>wpAny (model X.prog X.w) X.A (compareOp op v u) (EP X pins σ Q) X.xe s₂) X.xe s₁) X.xe s
def tB (t:TE):TT:=fun σ H Q=>t σ H fun x H1=>∃ c,x=.bl c/\Q c H1
theorem pt_cmp {op:CmpOp} {t:TE} (h:PC X op a b t) (h1:behindInMarks op b=false:=by first | exact nobehind _ (by decide) (by decide) | rfl):PT X (.Compare a [op] [b] pos) (tB t):=by
 intro pins s σ H Q I hw
 refine wpAny_isTrue_Compare1 (thn (h pins s σ H _ I hw) fun v s1 h1=>thn h1 fun u s2 h2=>thn h2 fun c s3 hz1=>?_) h1
 obtain ⟨x,H1,I1,r1,q1⟩:=hz1
 obtain ⟨d,rfl,q⟩:=q1
 cases r1
 exact wpAny_truthy_bool ⟨H1,I1,q⟩
theorem pt_val {e:Expr} {t:TE} (h:PE X e t) (he:∀ whole,isTrue e X.env whole=(do let v <- whole;standAt e.pos;holding [v] (truthy v)):=by intro _;rfl):PT X e (tB t):=by
 intro pins s σ H Q I hw
 refine isTrue_plain (thn (h pins s σ H _ I hw) fun v s1 hz2=>?_) (he _)
 obtain ⟨x,H1,I1,r1,q1⟩:=hz2
 obtain ⟨d,rfl,q⟩:=q1
 cases r1
 exact wpAny_truthy_bool ⟨H1,I1,q⟩
variable {tA tB':TT} {rest:List Expr}
def tAnd (t u:TT):TT:=fun σ H Q=>t σ H fun c H1=>if c=true then u σ H1 Q else Q false H1
def tOr (t u:TT):TT:=fun σ H Q=>t σ H fun c H1=>if c=true then Q true H1 else u σ H1 Q
def tNot (t:TT):TT:=fun σ H Q=>t σ H fun c H1=>Q (!c) H1
theorem pw_and1 (ha:PT X a tA):PW X (.BoolOp .And [a] pos) tA:=by
 intro wh pins s σ H Q I h
 refine isTrue_and (thn (ha pins s σ H Q I h) fun c s1 e=>?_)
 cases c with
 | true=>exact isTrue_and_nil e
 | false=>exact e
theorem pw_or1 (ha:PT X a tA):PW X (.BoolOp .Or [a] pos) tA:=by
 intro wh pins s σ H Q I h
 refine isTrue_or (thn (ha pins s σ H Q I h) fun c s1 e=>?_)
 cases c with
 | false=>exact isTrue_or_nil e
 | true=>exact e
theorem pw_and (ha:PT X a tA) (hb:PW X (.BoolOp .And (b :: rest) pos) tB'):PW X (.BoolOp .And (a :: b :: rest) pos) (tAnd tA tB'):=by
 intro wh pins s σ H Q I h
 refine isTrue_and (thn (ha pins s σ H _ I h) fun c s1 hz3=>?_)
 obtain ⟨H1,I1,q1⟩:=hz3
 cases c with
 | true=>exact hb wh pins s1 σ H1 Q I1 q1
 | false=>exact ⟨H1,I1,q1⟩
theorem pw_or (ha:PT X a tA) (hb:PW X (.BoolOp .Or (b :: rest) pos) tB'):PW X (.BoolOp .Or (a :: b :: rest) pos) (tOr tA tB'):=by
 intro wh pins s σ H Q I h
 refine isTrue_or (thn (ha pins s σ H _ I h) fun c s1 hz4=>?_)
 obtain ⟨H1,I1,q1⟩:=hz4
 cases c with
 | true=>exact ⟨H1,I1,q1⟩
 | false=>exact hb wh pins s1 σ H1 Q I1 q1
theorem pt_not (ha:PT X a tA):PT X (.UnaryOp .Not a pos) (tNot tA):=by
 intro pins s σ H Q I h
 exact isTrue_not (ha pins s σ H (fun c H1=>Q (!c) H1) I h)
def tAndV (ta tb:TE):TE:=fun σ H Q=>ta σ H fun x H1=>∃ c,x=.bl c/\if c=true then tb σ H1 Q else Q (.bl false) H1
def tOrV (ta tb:TE):TE:=fun σ H Q=>ta σ H fun x H1=>∃ c,x=.bl c/\if c=true then Q (.bl true) H1 else tb σ H1 Q
def tNotV (ta:TE):TE:=fun σ H Q=>ta σ H fun x H1=>∃ c,x=.bl c/\Q (.bl (!c)) H1
theorem pe_one {op} {t:TE} (h:PE X a t):PE X (.BoolOp op [a] pos) t:=fun pins s σ H Q I hw=>BoolOp_one (h pins s σ H Q I hw)
theorem pe_and (ha:PE X a ta) (hb:PE X (.BoolOp .And (b :: rest) pos) tb):PE X (.BoolOp .And (a :: b :: rest) pos) (tAndV ta tb):=by
 intro pins s σ H Q I h
 refine BoolOp_and (thn (ha pins s σ H _ I h) fun v s1 hz5=>?_)
 obtain ⟨x,H1,I1,r1,q1⟩:=hz5
 obtain ⟨c,rfl,q1⟩:=q1
 cases r1
 refine wpAny_truthy_bool ?_
 cases c with
 | true=>exact hb pins s1 σ H1 Q I1 q1
 | false=>exact ⟨.bl false,H1,I1,rfl,q1⟩
theorem pe_or (ha:PE X a ta) (hb:PE X (.BoolOp .Or (b :: rest) pos) tb):PE X (.BoolOp .Or (a :: b :: rest) pos) (tOrV ta tb):=by
 intro pins s σ H Q I h
 refine BoolOp_or (thn (ha pins s σ H _ I h) fun v s1 hz6=>?_)
 obtain ⟨x,H1,I1,r1,q1⟩:=hz6
 obtain ⟨c,rfl,q1⟩:=q1
 cases r1
 refine wpAny_truthy_bool ?_
 cases c with
 | false=>exact hb pins s1 σ H1 Q I1 q1
 | true=>exact ⟨.bl true,H1,I1,rfl,q1⟩
theorem pe_not (ha:PE X a ta):PE X (.UnaryOp .Not a pos) (tNotV ta):=by
 intro pins s σ H Q I h
 refine UnaryOp_ (thn (ha pins s σ H _ I h) fun v s1 hz7=>?_)
 obtain ⟨x,H1,I1,r1,q1⟩:=hz7
 obtain ⟨c,rfl,q1⟩:=q1
 cases r1
 exact not_of (wpAny_truthy_bool ⟨.bl (!c),H1,I1,rfl,q1⟩)
end
end L2
namespace L2
open PySem PySem.Spec PyProof.Rows
def SqL (K:PySem.W.Frag) (H:Hp) (a:Addr) (xs:List V):Prop:=
 Rd H a (.lst xs) \/
  ∃ (o:Obj) (its:Array Value) (n:Nat),K.lookup a=some o/\o.cls=.type "list"/\o.dict=none/\o.data=.seq its n/\its.size <= sizeLine/\Vals xs its.toList
def SqT (K:PySem.W.Frag) (H:Hp) (a:Addr) (xs:List V):Prop:=
 Rd H a (.tup xs) \/
  ∃ (o:Obj) (its:Array Value) (n:Nat),K.lookup a=some o/\o.cls=.type "tuple"/\o.data=.seq its n/\its.size <= sizeLine/\Vals xs its.toList
def absV:Value->Option V
 | .none=>some .non
 | .bool b=>some (.bl b)
 | .int i _=>some (.int i)
 | .str x _=>some (.str x)
 | .bytes b _=>some (.byt b)
 | .float b _=>some (.flt b)
 | .ref a=>some (.ref a)
 | .type n=>some (.ty n)
 | _=>none
theorem RelV.abs {x:V} {u:Value} (r:RelV x u):absV u=some x:=by
 cases x with
 | non=>cases r;rfl
 | bl _=>cases r;rfl
 | int _=>obtain ⟨t,rfl⟩:=r;rfl
 | str _=>obtain ⟨t,rfl⟩:=r;rfl
 | byt _=>obtain ⟨t,rfl⟩:=r;rfl
 | flt _=>obtain ⟨t,rfl⟩:=r;rfl
 | ref _=>cases r;rfl
 | ty _=>cases r;rfl
theorem RelV.inj {x y:V} {u:Value} (r:RelV x u) (q:RelV y u):x=y:=Option.some.inj (r.abs.symm.trans q.abs)
theorem Vals.inj:∀ {xs ys:List V} {us:List Value},Vals xs us->Vals ys us->xs=ys
 | _,_,_,.nil,.nil=>rfl
 | _,_,_,.cons r t,.cons r' t'=>by rw [r.inj r',Vals.inj t t']
section
variable {X:Cx} {pins:List (Addr × Obj)} {σ:St} {H:Hp} {s:Shared} {a:Addr} {xs ys:List V}
theorem SqL.of {K:PySem.W.Frag} (h:H a=some (.lst xs)):SqL K H a xs:=.inl (.inl h)
theorem SqT.of {K:PySem.W.Frag} (h:H a=some (.tup xs)):SqT K H a xs:=.inl (.inl h)
theorem Inv.list (I:Inv X pins σ H s) (h:SqL X.K H a xs):∃ its:List Value,Vals xs its/\PlainL s.heap a its.toArray/\xs.length <= sizeLine:=by
 rcases h with h | ⟨o,its,n,hk,hc,hd,hs,hz,r⟩
 ·obtain ⟨z,its,n,r,e⟩:=h.ok I.hok
  exact ⟨its,r,⟨_,n,e,rfl,rfl,rfl⟩,z⟩
 ·refine ⟨its.toList,r,⟨o,n,I.kIn a o hk,hc,hd,by simpa using hs⟩,?_⟩
  have e:=r.length
  simp only [Array.length_toList] at e
  omega
theorem Inv.tuple (I:Inv X pins σ H s) (h:SqT X.K H a xs):∃ its:List Value,Vals xs its/\IsTup s.heap a its.toArray/\xs.length <= sizeLine:=by
 rcases h with h | ⟨o,its,n,hk,hc,hs,hz,r⟩
 ·obtain ⟨z,its,r,p⟩:=h.ok I.hok
  exact ⟨its,r,p,z⟩
 ·refine ⟨its.toList,r,⟨o,I.kIn a o hk,hc,n,by simpa using hs⟩,?_⟩
  have e:=r.length
  simp only [Array.length_toList] at e
  omega
theorem Inv.list_inj (I:Inv X pins σ H s) (h:SqL X.K H a xs) (h':SqL X.K H a ys):xs=ys:=by
 obtain ⟨its,r,⟨o,n,e,_,_,d⟩,_⟩:=I.list h
 obtain ⟨its',r',⟨o',n',e',_,_,d'⟩,_⟩:=I.list h'
 rw [e] at e';cases e'
 rw [d] at d'
 injection d' with d1 _
 have:its=its':=by simpa using congrArg Array.toList d1
 subst this
 exact r.inj r'
theorem Inv.tuple_inj (I:Inv X pins σ H s) (h:SqT X.K H a xs) (h':SqT X.K H a ys):xs=ys:=by
 obtain ⟨its,r,⟨o,e,_,n,d⟩,_⟩:=I.tuple h
 obtain ⟨its',r',⟨o',e',_,n',d'⟩,_⟩:=I.tuple h'
 rw [e] at e';cases e'
 rw [d] at d'
 injection d' with d1 _
 have:its=its':=by simpa using congrArg Array.toList d1
 subst this
 exact r.inj r'
end
abbrev Cx.wish (X:Cx) (E:Value->Shared->Prop):Cx:={ X with xe:=E }
abbrev Cx.nox (X:Cx):Cx:=X.wish fun _ _=>False
theorem Cx.Ok.wish {X:Cx} (ok:X.Ok) (E:Value->Shared->Prop):(X.wish E).Ok:=
 ⟨ok.mod,ok.kind,ok.glob,ok.blt,ok.above,ok.inj,ok.has,ok.cab,ok.hd,ok.frames,ok.stk,ok.exf,ok.bs,ok.bsz,ok.noex,ok.exfs,ok.funs,ok.frf⟩
theorem Cx.Ok.unwish {X:Cx} {E:Value->Shared->Prop} (ok:(X.wish E).Ok):X.Ok:=
 ⟨ok.mod,ok.kind,ok.glob,ok.blt,ok.above,ok.inj,ok.has,ok.cab,ok.hd,ok.frames,ok.stk,ok.exf,ok.bs,ok.bsz,ok.noex,ok.exfs,ok.funs,ok.frf⟩
section
variable {X:Cx} {pins:List (Addr × Obj)} {σ:St} {H:Hp} {s:Shared} {E:Value->Shared->Prop}
theorem Inv.wish (I:Inv X pins σ H s) (E:Value->Shared->Prop):Inv (X.wish E) pins σ H s:=⟨I.ok.wish E,I.os,I.bare,I.base,I.loc,I.cell,I.free,I.freeC,I.pin,I.hok,I.len⟩
theorem Inv.unwish (I:Inv (X.wish E) pins σ H s):Inv X pins σ H s:=⟨I.ok.unwish,I.os,I.bare,I.base,I.loc,I.cell,I.free,I.freeC,I.pin,I.hok,I.len⟩
theorem SP.unwish {D:Ends} {f:Flow} {s':Shared} (h:SP (X.wish E) pins D f s'):SP X pins D f s':=by
 cases f with
 | next=>obtain ⟨σ',H',I,q⟩:=h;exact ⟨σ',H',I.unwish,q⟩
 | brk=>obtain ⟨σ',H',I,q⟩:=h;exact ⟨σ',H',I.unwish,q⟩
 | cont=>obtain ⟨σ',H',I,q⟩:=h;exact ⟨σ',H',I.unwish,q⟩
 | ret u=>obtain ⟨v,σ',H',I,r,q⟩:=h;exact ⟨v,σ',H',I.unwish,r,q⟩
theorem PSs.nox {st:List Stmt} {t:TS} (h:PSs X.nox st t):PSs X st t:=fun pins s σ H D I hw=>
 wpAny_mono (h pins s σ H D (I.wish _) hw) (fun _ _ q=>q.unwish) fun _ _ z=>False.elim z
end
section
variable {X:Cx} {st:Stmt} {rest:List Stmt} {t u:TS} {e:Expr} {te:TE} {pos:Pos}
def tNext:TS:=fun D σ H=>D.nx σ H
def tSeq (t u:TS):TS:=fun D σ H=>t { D with nx:=u D } σ H
theorem pss_nil:PSs X [] tNext:=fun _ _ σ H _ I h=>wpAny_execs_nil ⟨σ,H,I,h⟩
theorem pss_cons (h1:PS X st t) (h2:PSs X rest u):PSs X (st :: rest) (tSeq t u):=by
 intro pins s σ H D I h
 refine wpAny_execs_cons (thn (h1 pins s σ H { D with nx:=u D } I h) fun f s1 q=>?_)
 cases f with
 | next=>
  obtain ⟨σ',H',I',q⟩:=q
  exact h2 pins s1 σ' H' D I' q
 | ret v=>exact q
 | brk=>exact q
 | cont=>exact q
theorem pss_one (h1:PS X st t):PSs X [st] t:=by
 intro pins s σ H D I h
 refine wpAny_execs_cons (thn (h1 pins s σ H D I h) fun f s1 q=>?_)
 cases f with
 | next=>exact wpAny_execs_nil q
 | ret v=>exact q
 | brk=>exact q
 | cont=>exact q
theorem Inv.quiet {pins:List (Addr × Obj)} {σ:St} {H:Hp} {s:Shared} (I:Inv X pins σ H s):interactive X.env=false:=by simp [interactive,I.ok.kind]
def tDrop (te:TE):TS:=fun D σ H=>te σ H fun _ H1=>D.nx σ H1
theorem ps_expr (he:PE X e te) (hs:swapsWith e none pos.line X.env=pure false:=by rfl):PS X (.Expr e pos) (tDrop te):=by
 intro pins s σ H D I h
 exact wpAny_Expr_any (thn (he pins s σ H _ I h) fun v s1 ⟨x,H1,I1,r1,q1⟩=>⟨σ,H1,I1,q1⟩) I.quiet hs
def tRet (te:TE):TS:=fun D σ H=>te σ H D.rt
theorem ps_ret (he:PE X e te):PS X (.Return (some e) pos) (tRet te):=by
 intro pins s σ H D I h
 exact wpAny_Return_some (thn (he pins s σ H _ I h) fun v s1 ⟨x,H1,I1,r1,q1⟩=>⟨x,σ,H1,I1,r1,q1⟩)
def tIfS (c:TT) (t u:TS):TS:=fun D σ H=>c σ H fun b H1=>if b=true then t D σ H1 else u D σ H1
theorem ps_if {c:Expr} {a b:List Stmt} {tc:TT} (hc:PT X c tc) (ha:PSs X a t) (hb:PSs X b u):PS X (.If c a b pos) (tIfS tc t u):=by
 intro pins s σ H D I h
 refine wpAny_If (thn (hc pins s σ H _ I h) fun d s1 hz8=>?_)
 obtain ⟨H1,I1,q1⟩:=hz8
 cases d with
 | true=>exact ha pins s1 σ H1 D I1 q1
 | false=>exact hb pins s1 σ H1 D I1 q1
end
abbrev TG:=V->St->Hp->(St->Hp->Prop)->Prop
abbrev TGs:=List V->St->Hp->(St->Hp->Prop)->Prop
def PG (X:Cx) (target:Expr) (t:TG):Prop:=
 ∀ (pins:List (Addr × Obj)) (s:Shared) (σ:St) (H:Hp) (v:V) (u:Value) (Q:St->Hp->Prop),Inv X pins σ H s->RelV v u->t v σ H Q ->
  wpAny (model X.prog X.w) X.A (assign target X.env u) (fun _ s'=>∃ σ' H',Inv X pins σ' H' s'/\Q σ' H') X.xe s
def PGs (X:Cx) (ts:List Expr) (t:TGs):Prop:=
 ∀ (pins:List (Addr × Obj)) (s:Shared) (σ:St) (H:Hp) (vs:List V) (us:List Value) (Q:St->Hp->Prop),Inv X pins σ H s->Vals vs us->t vs σ H Q ->
  wpAny (model X.prog X.w) X.A (assignInOrder ((assignEach ts X.env).map (·.2)) us) (fun _ s'=>∃ σ' H',Inv X pins σ' H' s'/\Q σ' H') X.xe s
abbrev TSet:=V->V->V->Hp->(Hp->Prop)->Prop
def PSet (X:Cx) (t:TSet):Prop:=
 ∀ (pins:List (Addr × Obj)) (s:Shared) (σ:St) (H:Hp) (o i v:V) (ov iv u:Value) (Q:Hp->Prop),Inv X pins σ H s->RelV o ov->RelV i iv->RelV v u->t o i v H Q ->
  wpAny (model X.prog X.w) X.A (setItem ov iv u) (fun _ s'=>∃ H',Inv X pins σ H' s'/\Q H') X.xe s
section
variable {X:Cx} {pos:Pos}
def gName (i:Nat):TG:=fun v σ H Q=>Q (σ.set i (some v)) H
theorem pg_name {i:Nat} {x:Str} (hN:X.N.Nodup) (hi:X.N[i]?=some x) (hx:Loc X.env.scope x) (hf:X.fn x=true \/ X.env.scope.names.lookup x=some .local:=by first | exact .inl rfl | exact .inr rfl | assumption):PG X (.Name x pos) (gName i):=by
 intro pins s σ H v u Q I r h
 exact wpAny_assign_Name (store_ok I hN hi hx r (fun s' I'=>⟨_,H,I',h⟩) hf)
def gNil:TGs:=fun vs σ H Q=>vs=[]/\Q σ H
def gCons (t:TG) (u:TGs):TGs:=fun vs σ H Q=>∃ v r,vs=v :: r/\t v σ H fun σ' H'=>u r σ' H' Q
theorem pgs_nil:PGs X [] gNil:=by
 intro pins s σ H vs us Q I r h
 obtain ⟨e,h⟩:=h
 subst e
 cases r
 exact assignInOrder_nil ⟨σ,H,I,h⟩
theorem pgs_cons {e:Expr} {es:List Expr} {t:TG} {u:TGs} (h1:PG X e t) (h2:PGs X es u)
  (hs:(assignEach (e :: es) X.env).map (·.2)=assign e X.env :: (assignEach es X.env).map (·.2):=by rfl):PGs X (e :: es) (gCons t u):=by
 intro pins s σ H vs us Q I r h
 obtain ⟨v,vr,e1,h⟩:=h
 subst e1
 cases r with
 | cons r rr=>
  rw [hs]
  refine assignInOrder_cons (thn (h1 pins s σ H _ _ _ I r h) fun _ s1 hz9=>?_)
  obtain ⟨σ1,H1,I1,q1⟩:=hz9
  exact h2 pins s1 σ1 H1 _ _ Q I1 rr q1
def gTup (K:PySem.W.Frag) (n:Nat) (t:TGs):TG:=fun v σ H Q=>∃ a xs,v=.ref a/\SqT K H a xs/\xs.length=n/\t xs σ H Q
theorem pg_tup {es:List Expr} {k:Nat} {t:TGs} {n:Nat} (hc:X.calm=true) (h:PGs X es t)
  (hn:(assignEach es X.env).length=n:=by rfl) (hst:(assignEach es X.env).findIdx? (·.1)=none:=by rfl):PG X (.Tuple es k pos) (gTup X.K n t):=by
 intro pins s σ H v u Q I r hw
 obtain ⟨a,xs,e1,hq,hl,hw⟩:=hw
 subst e1
 cases r
 obtain ⟨its,rv,ht,hz⟩:=I.tuple hq
 refine assign_Tuple_tuple (I.ok.hd hc) ht (by simp [hn,<- hl,rv.length]) hst fun h' hx=>?_
 have I1:Inv X pins σ H { s with heap:=h' }:=I.kept (t':=s.toks) fun b o e=>hx b o (Nat.ne_of_lt (Heap.lt_size e)) e
 exact h pins _ σ H xs _ Q I1 (by simpa using rv) hw
def gSub (to ti:TE) (t:TSet):TG:=fun v σ H Q=>to σ H fun o H1=>ti σ H1 fun i H2=>t o i v H2 fun H3=>Q σ H3
theorem pg_sub {o i:Expr} {to ti:TE} {t:TSet} (ho:PE X o to) (hi:PE X i ti) (hs:PSet X t)
  (ha:∀ v,assign (.Subscript o i pos) X.env v=(do
   let ov <- holding [v] (eval o X.env)
   let iv <- holding [v,ov] (eval i X.env)
   standAt pos
   holding [v,ov,iv] (setItem ov iv v)
   release [v,ov,iv] []):=by intro _;rfl):PG X (.Subscript o i pos) (gSub to ti t):=by
 intro pins s σ H v u Q I r h
 rw [ha]
 refine wpAny_bind (wpAny_holding (thn (ho pins s σ H _ I h) fun ov s1 hz10=>?_))
 obtain ⟨x,H1,I1,r1,q1⟩:=hz10
 refine wpAny_bind (wpAny_holding (thn (hi pins s1 σ H1 _ I1 q1) fun iv s2 hz11=>?_))
 obtain ⟨y,H2,I2,r2,q2⟩:=hz11
 refine wpAny_bind (wpAny_standAt (wpAny_bind (wpAny_holding (thn (hs pins s2 σ H2 x y v ov iv u _ I2 r1 r2 r q2) fun _ s3 hz12=>?_))))
 obtain ⟨H3,I3,q3⟩:=hz12
 exact wpAny_release ⟨σ,H3,I3,q3⟩
def tAsg (te:TE) (g:TG):TS:=fun D σ H=>te σ H fun x H1=>g x σ H1 D.nx
theorem ps_asg {tg e:Expr} {te:TE} {g:TG} (he:PE X e te) (hg:PG X tg g) (hs:swapsWithSole [tg] e pos.line X.env=pure false:=by rfl) (hw:swappedStores [tg] e X.env=pure none:=by rfl)
  (h1:(assignEach [tg] X.env).map (·.2)=[assign tg X.env]:=by rfl):PS X (.Assign [tg] e pos) (tAsg te g):=by
 intro pins s σ H D I h
 refine wpAny_Assign_stores (thn (he pins s σ H _ I h) fun v s1 hz13=>?_) hs hw
 obtain ⟨x,H1,I1,r1,q1⟩:=hz13
 rw [h1]
 exact thn (hg pins s1 σ H1 x v _ I1 r1 q1) fun _ s2 q=>q
theorem ps_set {i:Nat} {x:Str} {e:Expr} {te:TE} {pos':Pos} (hN:X.N.Nodup) (hi:X.N[i]?=some x) (hx:Loc X.env.scope x) (he:PE X e te) (hs:swapsWith e (some (.Name x pos')) pos.line X.env=pure false:=by rfl) (hf:X.fn x=true \/ X.env.scope.names.lookup x=some .local:=by first | exact .inl rfl | exact .inr rfl | assumption) :
  PS X (.Assign [.Name x pos'] e pos) (tAsg te (gName i)):=by
 intro pins s σ H D I h
 refine wpAny_Assign_Name (thn (he pins s σ H _ I h) fun v s1 hz14=>?_) hs
 obtain ⟨y,H1,I1,r1,q1⟩:=hz14
 exact store_ok I1 hN hi hx r1 (fun s2 I2=>⟨_,H1,I2,q1⟩) hf
end
section
variable {X:Cx} {pos:Pos}
def tWhile (c:TT) (tb:TS):TS:=fun D σ H=>∃ W:Nat->St->Hp->Prop,(∃ m,W m σ H)/\∀ m σ H,W m σ H ->
 c σ H fun b H1=>if b=true then ∃ N:St->Hp->Prop,(∀ σ' H',N σ' H'->∃ m',m' < m/\W m' σ' H')/\tb { D with nx:=N,ct:=N,bk:=D.nx } σ H1 else D.nx σ H1
theorem ps_while {c:Expr} {body:List Stmt} {tc:TT} {tb:TS} (hp:PassesOwn (model X.prog X.w) X.A X.env X.xe) (hc:PT X c tc) (hb:PSs X body tb):PS X (.While c body [] pos) (tWhile tc tb):=by
 intro pins s σ H D I h
 obtain ⟨W,⟨m0,w0⟩,turn⟩:=h
 refine wpAny_While (codeAny_whileLoop (fun n s'=>∃ σ' H',Inv X pins σ' H' s'/\W n σ' H') ?_ m0 ⟨σ,H,I,w0⟩)
 rintro n s1 ⟨σ1,H1,I1,w1⟩
 refine wpAny_passesOwn hp (thn (hc pins s1 σ1 H1 _ I1 (turn n σ1 H1 w1)) fun b s2 hz15=>?_)
 obtain ⟨H2,I2,q2⟩:=hz15
 cases b with
 | true=>
  obtain ⟨N,hN,q2⟩:=q2
  rw [if_pos rfl]
  refine wpAny_passesOwn hp (thn (hb pins s2 σ1 H2 _ I2 q2) fun f s3 q3=>?_)
  cases f with
  | next=>
   obtain ⟨σ3,H3,I3,n3⟩:=q3
   obtain ⟨m',hm,w3⟩:=hN σ3 H3 n3
   exact ⟨m',hm,σ3,H3,I3,w3⟩
  | cont=>
   obtain ⟨σ3,H3,I3,n3⟩:=q3
   obtain ⟨m',hm,w3⟩:=hN σ3 H3 n3
   exact ⟨m',hm,σ3,H3,I3,w3⟩
  | brk=>exact q3
  | ret v=>exact q3
 | false=>
  rw [if_neg Bool.false_ne_true]
  exact wpAny_execs_nil ⟨σ1,H2,I2,q2⟩
end
structure It where
 go:Nat->Hp->Prop
 yld:Nat->Hp->V->Hp->Prop
 stop:Nat->Hp->Prop
def FpOk (X:Cx) (pins:List (Addr × Obj)) (H:Hp) (b:Addr):Prop:=
 H b=none/\b ≠ X.env.locals/\b ∉ X.fs/\(b ∈ X.ex \/ X.s₀.heap.objs.size <= b)/\(∀ x c,X.env.cells.lookup x=some c->c ≠ b)/\∀ p ∈ X.pn ++ pins,p.1 ≠ b
theorem Inv.fpOk {X:Cx} {pins:List (Addr × Obj)} {σ:St} {H H':Hp} {s:Shared} {b:Addr} (I:Inv X pins σ H s) (hb:s.heap.objs.size <= b) (hn:H' b=none):FpOk X pins H' b:=by
 refine ⟨hn,Nat.ne_of_gt (Nat.lt_of_lt_of_le I.lt hb),I.nofs hb,.inr (Nat.le_trans I.sz hb),fun x c e z=>?_,fun p hp z=>?_⟩
 ·obtain ⟨v,q⟩:=I.cell x c e
  exact absurd (Nat.lt_of_lt_of_le q.lt (by rw [z];exact hb)) (Nat.lt_irrefl _)
 ·exact absurd (Nat.lt_of_lt_of_le (Heap.lt_size (I.pin p hp).1) (by rw [z];exact hb)) (Nat.lt_irrefl _)
structure Turn (P:Program) (w:World) (K:PySem.W.Frag) (tg:Expr) (J:It) (fp:List Addr) (it:Addr) (tn:Nat->Heap->Prop):Prop where
 mem:it ∈ fp
 obj:∀ i h,tn i h->∀ b ∈ fp,∃ o,h.get? b=some o/\∀ v,o.data ≠ .cell v
 keep:∀ i h h',tn i h->(∀ b ∈ fp,∀ o,h.get? b=some o->h'.get? b=some o)->tn i h'
 item:∀ (X:Cx),X.prog=P->X.w=w->X.K=K->X.calm=true->∀ (i:Nat) (pins:List (Addr × Obj)) (s:Shared) (σ:St) (H:Hp) (E:Value->Shared->Prop),Inv X pins σ H s->(∀ b ∈ fp,FpOk X pins H b)->tn i s.heap->J.go i H ->
  wpAny (model P w) X.A (pyNext (.ref it)) (fun r s1=>∃ u,r=some u /\
   wpAny (model P w) X.A (letOwnedTupleGo tg (.ref it) u) (fun _ s2=>∃ x H',Inv X pins σ H' s2/\RelV x u/\J.yld i H x H'/\tn (i + 1) s2.heap/\∀ b ∈ fp,H' b=none) E s1) E s
 done:∀ (X:Cx),X.prog=P->X.w=w->X.K=K->X.calm=true->∀ (i:Nat) (pins:List (Addr × Obj)) (s:Shared) (σ:St) (H:Hp) (E:Value->Shared->Prop),Inv X pins σ H s->(∀ b ∈ fp,FpOk X pins H b)->tn i s.heap->J.stop i H ->
  wpAny (model P w) X.A (pyNext (.ref it)) (fun r s1=>r=none/\Inv X pins σ H s1) E s
 self:∀ (A:Around) (i:Nat) (s:Shared) (Q:Value->Shared->Prop) (E:Value->Shared->Prop),tn i s.heap->Q (.ref it) s->wpAny (model P w) A (pyIter (.ref it)) Q E s
abbrev TI:=St->Hp->(It->Hp->Prop)->Prop
def PIE (X:Cx) (pins:List (Addr × Obj)) (σ:St) (tg:Expr) (R:It->Hp->Prop) (itv:Value) (s2:Shared):Prop:=
 ∃ (it:Addr) (fp:List Addr) (tn:Nat->Heap->Prop) (J:It) (H':Hp),itv=.ref it/\Inv X pins σ H' s2/\Turn X.prog X.w X.K tg J fp it tn/\tn 0 s2.heap/\(∀ b ∈ fp,FpOk X pins H' b)/\R J H'
def PI (X:Cx) (tg iter:Expr) (wi:TI):Prop:=
 ∀ (pins:List (Addr × Obj)) (s:Shared) (σ:St) (H:Hp) (R:It->Hp->Prop),Inv X pins σ H s->wi σ H R ->
  wpAny (model X.prog X.w) X.A (eval iter X.env) (fun v s1=>wpAny (model X.prog X.w) X.A (pyIter v) (PIE X pins σ tg R) X.xe s1) X.xe s
theorem go_of {M:Model} {A:Around} {E:Value->Shared->Prop} {s:Shared} {tg:Expr} {it:Addr} {u:Value} {o:Obj} {n:String} {vs:Array Value} {Q:Unit->Shared->Prop} (ho:s.heap.get? it=some o) (hc:o.cls=.type n) (hd:o.data=.fields vs)
    (hn:["enumerate","zip","dict_itemiterator","dict_reverseitemiterator","odict_iterator","itertools.zip_longest","itertools.pairwise"].contains n=false) (hQ:Q () s):wpAny M A (letOwnedTupleGo tg (.ref it) u) Q E s:=by
  unfold letOwnedTupleGo
  cases tg <;> first
    | exact wpAny_pure hQ
    | (cases u <;> first
        | exact wpAny_pure hQ
        | (refine wpAny_bind (wpAny_load ho ?_)
           rw [hc,hd]
           show wpAny M A (if (["enumerate","zip","dict_itemiterator","dict_reverseitemiterator","odict_iterator","itertools.zip_longest","itertools.pairwise"].contains n && vs[0]? == some (rawInt _))=true then _ else _) Q E s
           rw [if_neg (by intro h;rw [hn,Bool.false_and] at h;cases h)]
           exact wpAny_pure hQ))
def Itl (K:PySem.W.Frag) (a:Addr):It:=
 ⟨fun i H=>∃ xs x,SqL K H a xs/\xs[i]?=some x,fun i H x H'=>H'=H/\∀ xs,SqL K H a xs->xs[i]?=some x,fun i H=>∃ xs,SqL K H a xs/\xs.length <= i⟩
def Itt (K:PySem.W.Frag) (a:Addr):It:=
 ⟨fun i H=>∃ xs x,SqT K H a xs/\xs[i]?=some x,fun i H x H'=>H'=H/\∀ xs,SqT K H a xs->xs[i]?=some x,fun i H=>∃ xs,SqT K H a xs/\xs.length <= i⟩
def Itr (lo:Int) (n:Nat):It:=⟨fun i _=>i < n,fun i H x H'=>H'=H/\x=.int (lo + i),fun i _=>n <= i⟩
theorem turn_list {P:Program} {w:World} {K:PySem.W.Frag} {tg:Expr} (a it:Addr):Turn P w K tg (Itl K a) [it] it (fun i h=>h.IsListIter it a i) where
 mem:=by simp
 obj:=fun i h st b hb=>by
  have e:b=it:=by simpa using hb
  subst e
  obtain ⟨o,e,c,d⟩:=st
  exact ⟨o,e,fun v z=>by rw [d] at z;cases z⟩
 keep:=fun i h h' st k=>st.at fun o e=>k it (by simp) o e
 item:=by
  intro X hP hw hK hc i pins s σ H E I hf st hg
  subst hP hw hK
  obtain ⟨xs,x,hq,hx⟩:=hg
  obtain ⟨its,rv,p,hz⟩:=I.list hq
  obtain ⟨u,hu,ru⟩:=rv.get hx
  obtain ⟨f0,f1,f2,f3,f4,f5⟩:=hf it (by simp)
  refine wpAny_pyNext_list_item st p.isList (x:=u) (by simpa using hu) fun h' st' sb=>?_
  have I1:Inv X pins σ H { s with heap:=h' }:=I.turned (t':=s.toks) (fun b o hb e=>(sb.2 b hb).trans e) f0 f1 f3 f4 f5
  obtain ⟨o,e,c,d⟩:=id st'
  exact ⟨u,rfl,go_of (s:={ s with heap:=h' }) e c d (by decide) ⟨x,H,I1,ru,⟨rfl,fun ys hy=>by rw [I.list_inj hy hq];exact hx⟩,st',fun b hb=>(hf b hb).1⟩⟩
 done:=by
  intro X hP hw hK hc i pins s σ H E I hf st hg
  subst hP hw hK
  obtain ⟨xs,hq,hx⟩:=hg
  obtain ⟨its,rv,p,hz⟩:=I.list hq
  obtain ⟨f0,f1,f2,f3,f4,f5⟩:=hf it (by simp)
  have hl:=rv.length
  exact wpAny_pyNext_list_end (I.ok.hd hc) st p.isList (by simp;omega) fun h' eb=>⟨rfl,I.turned (t':=s.toks) (fun b o hb e=>eb b o hb e) f0 f1 f3 f4 f5⟩
 self:=fun _ _ _ _ _ st h=>wpAny_pyIter_listiter st h
theorem turn_tuple {P:Program} {w:World} {K:PySem.W.Frag} {tg:Expr} (a it:Addr):Turn P w K tg (Itt K a) [it] it (fun i h=>h.IsTupleIter it a i) where
 mem:=by simp
 obj:=fun i h st b hb=>by
  have e:b=it:=by simpa using hb
  subst e
  obtain ⟨o,e,c,d⟩:=st
  exact ⟨o,e,fun v z=>by rw [d] at z;cases z⟩
 keep:=fun i h h' st k=>st.at fun o e=>k it (by simp) o e
 item:=by
  intro X hP hw hK hc i pins s σ H E I hf st hg
  subst hP hw hK
  obtain ⟨xs,x,hq,hx⟩:=hg
  obtain ⟨its,rv,p,hz⟩:=I.tuple hq
  obtain ⟨u,hu,ru⟩:=rv.get hx
  obtain ⟨f0,f1,f2,f3,f4,f5⟩:=hf it (by simp)
  refine wpAny_pyNext_tuple_item st (show s.heap.IsTuple a its.toArray from p) (x:=u) (by simpa using hu) fun h' st' sb=>?_
  have I1:Inv X pins σ H { s with heap:=h' }:=I.turned (t':=s.toks) (fun b o hb e=>(sb.2 b hb).trans e) f0 f1 f3 f4 f5
  obtain ⟨o,e,c,d⟩:=id st'
  exact ⟨u,rfl,go_of (s:={ s with heap:=h' }) e c d (by decide) ⟨x,H,I1,ru,⟨rfl,fun ys hy=>by rw [I.tuple_inj hy hq];exact hx⟩,st',fun b hb=>(hf b hb).1⟩⟩
 done:=by
  intro X hP hw hK hc i pins s σ H E I hf st hg
  subst hP hw hK
  obtain ⟨xs,hq,hx⟩:=hg
  obtain ⟨its,rv,p,hz⟩:=I.tuple hq
  obtain ⟨f0,f1,f2,f3,f4,f5⟩:=hf it (by simp)
  have hl:=rv.length
  exact wpAny_pyNext_tuple_end (I.ok.hd hc) st (show s.heap.IsTuple a its.toArray from p) (by simp;omega) fun h' eb=>⟨rfl,I.turned (t':=s.toks) (fun b o hb e=>eb b o hb e) f0 f1 f3 f4 f5⟩
 self:=fun _ _ _ _ _ st h=>wpAny_pyIter_tupleiter st h
theorem turn_range {P:Program} {w:World} {K:PySem.W.Frag} {tg:Expr} (it:Addr) (lo:Int) (n:Nat):Turn P w K tg (Itr lo n) [it] it (fun i h=>IsRangeIter h it (lo + (i:Nat) * 1) ((n:Int) - (i:Nat)) 1) where
 mem:=by simp
 obj:=fun i h st b hb=>by
  have e:b=it:=by simpa using hb
  subst e
  exact ⟨_,st,fun v z=>by
   have z':Data.fields _=Data.cell v:=z
   cases z'⟩
 keep:=fun i h h' st k=>k it (by simp) _ st
 item:=by
  intro X hP hw hK hc i pins s σ H E I hf st hg
  subst hP hw hK
  obtain ⟨f0,f1,f2,f3,f4,f5⟩:=hf it (by simp)
  have W:=Walks.range (prog:=X.prog) (w:=X.w) (I.ok.hd hc) it lo 1 n
  refine W.item i s _ _ hg st fun v h' tk hv st' kk=>?_
  obtain ⟨t,rfl⟩:=hv
  have I1:Inv X pins σ H { s with heap:=h',toks:=tk }:=I.turned (fun b o hb e=>kk b o (by simpa using hb) e) f0 f1 f3 f4 f5
  refine ⟨_,rfl,go_of (s:={ s with heap:=h',toks:=tk }) (n:="range_iterator") st' rfl rfl (by decide) ⟨.int (lo + i),H,I1,⟨t,?_⟩,⟨rfl,rfl⟩,st',fun b hb=>(hf b hb).1⟩⟩
  rw [Int.mul_one]
 done:=by
  intro X hP hw hK hc i pins s σ H E I hf st hg
  subst hP hw hK
  obtain ⟨f0,f1,f2,f3,f4,f5⟩:=hf it (by simp)
  exact wpAny_pyNext_range_end (I.ok.hd hc) st (by have:n <= i:=hg;omega) fun h' eb=>⟨rfl,I.turned (t':=s.toks) (fun b o hb e=>eb b o hb e) f0 f1 f3 f4 f5⟩
 self:=fun _ _ _ _ _ st h=>wpAny_pyIter_rangeiter st h
end L2
namespace L2
open PySem PySem.Spec PyProof.Rows
section
variable {X:Cx} {tg:Expr}
def iList (K:PySem.W.Frag) (tl:TE):TI:=fun σ H R=>tl σ H fun x H1=>∃ a,x=.ref a/\(∃ xs,SqL K H1 a xs)/\R (Itl K a) H1
def iTup (K:PySem.W.Frag) (tl:TE):TI:=fun σ H R=>tl σ H fun x H1=>∃ a,x=.ref a/\(∃ xs,SqT K H1 a xs)/\R (Itt K a) H1
theorem pi_list {l:Expr} {tl:TE} (hl:PE X l tl):PI X tg l (iList X.K tl):=by
 intro pins s σ H R I h
 refine thn (hl pins s σ H _ I h) fun v s1 hz16=>?_
 obtain ⟨x,H1,I1,r1,q1⟩:=hz16
 obtain ⟨a,e,⟨xs,hq⟩,q⟩:=q1
 subst e
 cases r1
 obtain ⟨its,rv,p,hz⟩:=I1.list hq
 refine wpAny_pyIter_list p.isList ?_
 refine ⟨s1.heap.objs.size,[s1.heap.objs.size],_,_,H1,rfl,I1.kept (t':=s1.toks) fun b o e=>Heap.get?_push_of_some _ e,turn_list a _,⟨_,Heap.get?_push_size _ rfl,rfl,rfl⟩,fun b hb=>?_,q⟩
 have e:b=s1.heap.objs.size:=by simpa using hb
 subst e
 exact I1.fpOk (Nat.le_refl _) (I1.hok.fresh (Nat.le_refl _))
theorem pi_tup {l:Expr} {tl:TE} (hl:PE X l tl):PI X tg l (iTup X.K tl):=by
 intro pins s σ H R I h
 refine thn (hl pins s σ H _ I h) fun v s1 hz17=>?_
 obtain ⟨x,H1,I1,r1,q1⟩:=hz17
 obtain ⟨a,e,⟨xs,hq⟩,q⟩:=q1
 subst e
 cases r1
 obtain ⟨its,rv,p,hz⟩:=I1.tuple hq
 refine wpAny_pyIter_tuple (show s1.heap.IsTuple a its.toArray from p) ?_
 refine ⟨s1.heap.objs.size,[s1.heap.objs.size],_,_,H1,rfl,I1.kept (t':=s1.toks) fun b o e=>Heap.get?_push_of_some _ e,turn_tuple a _,⟨_,Heap.get?_push_size _ rfl,rfl,rfl⟩,fun b hb=>?_,q⟩
 have e:b=s1.heap.objs.size:=by simpa using hb
 subst e
 exact I1.fpOk (Nat.le_refl _) (I1.hok.fresh (Nat.le_refl _))
theorem range_it {pins:List (Addr × Obj)} {σ:St} {H:Hp} {s:Shared} {R:It->Hp->Prop} {E:Value->Shared->Prop} {lo hi:Int} {t u v:Tok} {tk:Nat} (I:Inv X pins σ H s) (h1:-(2 ^ 62) <= lo) (h2:lo < 2 ^ 62) (h3:-(2 ^ 62) <= hi) (h4:hi < 2 ^ 62)
  (q:R (Itr lo (hi - lo).toNat) H):wpAny (model X.prog X.w) X.A (pyIter (.ref s.heap.objs.size)) (PIE X pins σ tg R) E { s with heap:=s.heap.push { cls:=.type "range",data:=.fields #[.int lo t,.int hi u,.int 1 v] },toks:=tk }:=by
 refine wpAny_pyIter_range (IsRange.new ..) (small_one h1 h2 h3 h4) ?_
 have I1:Inv X pins σ H { s with heap:=s.heap.push { cls:=.type "range",data:=.fields #[.int lo t,.int hi u,.int 1 v] },toks:=tk }:=I.kept fun b o e=>Heap.get?_push_of_some _ e
 refine ⟨(s.heap.push { cls:=.type "range",data:=.fields #[.int lo t,.int hi u,.int 1 v] }).objs.size,[(s.heap.push { cls:=.type "range",data:=.fields #[.int lo t,.int hi u,.int 1 v] }).objs.size],_,_,H,rfl,
  I1.kept (t':=tk) fun b o e=>Heap.get?_push_of_some _ e,turn_range _ lo (hi - lo).toNat,?_,fun b hb=>?_,q⟩
 ·have e1:lo + ((0:Nat):Int) * 1=lo:=by simp
  have e2:(((hi - lo).toNat:Nat):Int) - ((0:Nat):Int)=Builtin.Range.rangeSize lo hi 1:=by rw [rangeSize_one];split <;> omega
  show IsRangeIter _ _ (lo + ((0:Nat):Int) * 1) ((((hi - lo).toNat:Nat):Int) - ((0:Nat):Int)) 1
  rw [e1,e2]
  exact Heap.get?_push_size _ rfl
 ·have e:b=(s.heap.push { cls:=.type "range",data:=.fields #[.int lo t,.int hi u,.int 1 v] }).objs.size:=by simpa using hb
  subst e
  exact I1.fpOk (Nat.le_refl _) (I1.hok.fresh (Nat.le_refl _))
def iRng1 (ta:TA):TI:=fun σ H R=>ta σ H fun vs H1=>∃ j:Int,vs=[.int j]/\-(2 ^ 62) <= j/\j < 2 ^ 62/\R (Itr 0 j.toNat) H1
def iRng2 (ta:TA):TI:=fun σ H R=>ta σ H fun vs H1=>∃ i j:Int,vs=[.int i,.int j]/\(-(2 ^ 62) <= i/\i < 2 ^ 62/\-(2 ^ 62) <= j/\j < 2 ^ 62)/\R (Itr i (j - i).toNat) H1
theorem pi_range1 {a:Expr} {ta:TA} {p pos:Pos} (hg:Gl X "range") (hm:X.mg "range"=none) (ha:PA X [a] ta) (hs:starEach [a] X.env=[(false,eval a X.env)]:=by rfl):PI X tg (.Call (.Name "range" p) [a] [] pos) (iRng1 ta):=by
 intro pins s σ H R I h
 refine Call_ (ld_blt I hg hm boot_range (PyProof.Rows.callWith_type1 (thn (ha pos pins s σ H _ I h) fun us s1 hz18=>?_) hs rfl))
 obtain ⟨vs,H1,I1,r1,q1⟩:=hz18
 obtain ⟨j,e,q1,q2,q⟩:=q1
 subst e
 cases r1 with
 | cons r rr=>
  cases rr
  obtain ⟨t,rfl⟩:=r
  exact call_range_1 (range_it I1 (by omega) (by omega) q1 q2 (by simpa using q))
theorem pi_range2 {a b:Expr} {ta:TA} {p pos:Pos} (hg:Gl X "range") (hm:X.mg "range"=none) (ha:PA X [a,b] ta) (hs:starEach [a,b] X.env=[(false,eval a X.env),(false,eval b X.env)]:=by rfl) (hs2:starEach [b] X.env=[(false,eval b X.env)]:=by rfl) :
  PI X tg (.Call (.Name "range" p) [a,b] [] pos) (iRng2 ta):=by
 intro pins s σ H R I h
 refine Call_ (ld_blt I hg hm boot_range (PyProof.Rows.callWith_type1 (thn (ha pos pins s σ H _ I h) fun us s1 hz19=>?_) (by rw [hs,hs2]) (by rw [hs2];rfl)))
 obtain ⟨vs,H1,I1,r1,q1⟩:=hz19
 obtain ⟨i,j,e,⟨q1,q2,q3,q4⟩,q⟩:=q1
 subst e
 cases r1 with
 | cons r rr=>
  cases rr with
  | cons r' rr=>
   cases rr
   obtain ⟨t,rfl⟩:=r
   obtain ⟨t',rfl⟩:=r'
   exact call_range_2 (range_it I1 q1 q2 q3 q4 q)
def tFor (wi:TI) (g:TG) (tb:TS):TS:=fun D σ H=>wi σ H fun J H1=>∃ W:Nat->Nat->St->Hp->Prop,(∃ m,W 0 m σ H1)/\∀ i m σ H,W i m σ H ->
 (J.stop i H/\D.nx σ H) \/ (J.go i H/\∃ N:St->Hp->Prop,(∀ σ' H',N σ' H'->∃ m',m' < m/\W (i + 1) m' σ' H')/\∀ x H',J.yld i H x H'->g x σ H' fun σ2 H2=>tb { D with nx:=N,ct:=N,bk:=D.nx } σ2 H2)
def pinsAt (fp:List Addr) (h:Heap):List (Addr × Obj):=fp.filterMap fun b=>(h.get? b).map fun o=>(b,o)
theorem mem_pinsAt {fp:List Addr} {h:Heap} {b:Addr} {o:Obj} (hb:b ∈ fp) (e:h.get? b=some o):(b,o) ∈ pinsAt fp h:=List.mem_filterMap.mpr ⟨b,hb,by rw [e];rfl⟩
theorem of_pinsAt {fp:List Addr} {h:Heap} {p:Addr × Obj} (hp:p ∈ pinsAt fp h):p.1 ∈ fp/\h.get? p.1=some p.2:=by
 obtain ⟨b,hb,e⟩:=List.mem_filterMap.mp hp
 cases q:h.get? b with
 | none=>rw [q] at e;cases e
 | some o=>
  rw [q] at e
  have e':(b,o)=p:=Option.some.inj e
  subst e'
  exact ⟨hb,q⟩
theorem Inv.pinned {pins:List (Addr × Obj)} {σ:St} {H:Hp} {s:Shared} {fp:List Addr} (I:Inv X pins σ H s) (hf:∀ b ∈ fp,FpOk X pins H b) (ho:∀ b ∈ fp,∃ o,s.heap.get? b=some o/\∀ v,o.data ≠ .cell v):Inv X (pins ++ pinsAt fp s.heap) σ H s:=
 I.pins_of fun p hp=>(List.mem_append.mp hp).elim (fun z=>I.pin p (List.mem_append_right _ z)) fun z=>by
  obtain ⟨hb,e⟩:=of_pinsAt z
  obtain ⟨f0,f1,f2,_⟩:=hf p.1 hb
  obtain ⟨o,e',d⟩:=ho p.1 hb
  rw [e] at e';cases e'
  exact ⟨e,f0,f1,f2,d⟩
theorem Inv.unpinned {pins pl:List (Addr × Obj)} {σ:St} {H:Hp} {s:Shared} (I:Inv X (pins ++ pl) σ H s):Inv X pins σ H s:=I.pins_of fun p hp=>I.pin p (List.mem_append_right _ (List.mem_append_left _ hp))
theorem ps_for {iter:Expr} {body:List Stmt} {wi:TI} {g:TG} {tb:TS} {pos:Pos} (hp:PassesOwn (model X.prog X.w) X.A X.env X.xe) (hc:X.calm=true) (hi:PI X tg iter wi) (hg:PG X tg g) (hb:PSs X body tb)
  (hs:∀ x,foldedSetIterable iter X.env x=pure x:=by intro _;rfl):PS X (.For tg iter body [] pos) (tFor wi g tb):=by
 intro pins s σ H D I h
 refine wpAny_For (thn (hi pins s σ H _ I h) fun v s1 h1=>thn h1 fun itv s2 h2=>?_) hs
 obtain ⟨it,fp,tn,J,H2,e,I2,T,st2,f2,W,⟨m0,w0⟩,turn⟩:=h2
 subst e
 have stat:∀ {H':Hp},(∀ b ∈ fp,H' b=none)->∀ b ∈ fp,FpOk X pins H' b:=fun hn b hb=>⟨hn b hb,(f2 b hb).2⟩
 refine codeAny_forLoop_any (fun n s'=>∃ i σ' H',Inv X pins σ' H' s'/\tn i s'.heap/\(∀ b ∈ fp,H' b=none)/\W i n σ' H') ?_ m0 ⟨0,σ,H2,I2,st2,fun b hb=>(f2 b hb).1,w0⟩
 rintro n s3 ⟨i,σ3,H3,I3,st3,fr3,w3⟩
 rcases turn i n σ3 H3 w3 with ⟨stop,qn⟩ | ⟨go,N,hN,step⟩
 ·refine wpAny_passesOwn hp (thn (T.done X rfl rfl rfl hc i pins s3 σ3 H3 X.xe I3 (stat fr3) st3 stop) fun r s4 ⟨hr,I4⟩=>?_)
  subst hr
  exact wpAny_execs_nil ⟨σ3,H3,I4,qn⟩
 ·refine wpAny_passesOwn hp (thn (T.item X rfl rfl rfl hc i pins s3 σ3 H3 X.xe I3 (stat fr3) st3 go) fun r s4 ⟨u,hr,h4⟩=>?_)
  subst hr
  refine wpAny_passesOwn hp (thn h4 fun _ s5 hz20=>?_)
  obtain ⟨x,H5,I5,r5,y5,st5,fr5⟩:=hz20
  have I5':=I5.pinned (stat fr5) (T.obj _ _ st5)
  refine wpAny_passesOwn hp (thn (hg _ s5 σ3 H5 x u _ I5' r5 (step x H5 y5)) fun _ s6 hz21=>?_)
  obtain ⟨σ6,H6,I6,q6⟩:=hz21
  refine wpAny_passesOwn hp (thn (hb _ s6 σ6 H6 _ I6 q6) fun f s7 q7=>?_)
  have again:∀ {σ7:St} {H7:Hp},Inv X (pins ++ pinsAt fp s5.heap) σ7 H7 s7->N σ7 H7->∃ m,m < n/\∃ i σ' H',Inv X pins σ' H' s7/\tn i s7.heap/\(∀ b ∈ fp,H' b=none)/\W i m σ' H':=fun {σ7 H7} I7 n7=>by
   obtain ⟨m',hm,w7⟩:=hN σ7 H7 n7
   refine ⟨m',hm,i + 1,σ7,H7,I7.unpinned,T.keep _ _ _ st5 fun b hb o e=>(I7.pin (b,o) (List.mem_append_right _ (List.mem_append_right _ (mem_pinsAt hb e)))).1,fun b hb=>?_,w7⟩
   obtain ⟨o,e,d⟩:=T.obj _ _ st5 b hb
   exact (I7.pin (b,o) (List.mem_append_right _ (List.mem_append_right _ (mem_pinsAt hb e)))).2.1
  cases f with
  | next=>obtain ⟨σ7,H7,I7,n7⟩:=q7;exact again I7 n7
  | cont=>obtain ⟨σ7,H7,I7,n7⟩:=q7;exact again I7 n7
  | brk=>obtain ⟨σ7,H7,I7,q7⟩:=q7;exact ⟨σ7,H7,I7.unpinned,q7⟩
  | ret v=>obtain ⟨x7,σ7,H7,I7,r7,q7⟩:=q7;exact ⟨x7,σ7,H7,I7.unpinned,r7,q7⟩
end
theorem for_list {K:PySem.W.Frag} {a:Addr} {xs:List V} {g:TG} {tb:TS} {D:Ends} {σ:St} {H:Hp} (Pv:Nat->St->Hp->Prop) (h0:Pv 0 σ H) (hl:∀ i σ H,i <= xs.length->Pv i σ H->SqL K H a xs)
  (hs:∀ i x σ H,xs[i]?=some x->Pv i σ H->g x σ H fun σ2 H2=>tb { D with nx:=Pv (i + 1),ct:=Pv (i + 1),bk:=D.nx } σ2 H2) (hd:∀ σ H,Pv xs.length σ H->D.nx σ H) :
  ∃ W:Nat->Nat->St->Hp->Prop,(∃ m,W 0 m σ H)/\∀ i m σ H,W i m σ H ->
   ((Itl K a).stop i H/\D.nx σ H) \/ ((Itl K a).go i H/\∃ N:St->Hp->Prop,(∀ σ' H',N σ' H'->∃ m',m' < m/\W (i + 1) m' σ' H')/\∀ x H',(Itl K a).yld i H x H'->g x σ H' fun σ2 H2=>tb { D with nx:=N,ct:=N,bk:=D.nx } σ2 H2):=by
 refine ⟨fun i m σ H=>m=xs.length - i/\i <= xs.length/\Pv i σ H,⟨xs.length,by simp,Nat.zero_le _,h0⟩,?_⟩
 rintro i m σ H ⟨rfl,hi,p⟩
 have q:=hl i σ H hi p
 by_cases hlt:i < xs.length
 ·refine .inr ⟨⟨xs,xs[i],q,by simp [hlt]⟩,Pv (i + 1),fun σ' H' p'=>⟨xs.length - (i + 1),by omega,rfl,hlt,p'⟩,fun x H' y=>?_⟩
  obtain ⟨e,y⟩:=y
  subst e
  exact hs i x σ _ (y xs q) p
 ·have e:i=xs.length:=by omega
  subst e
  exact .inl ⟨⟨xs,q,Nat.le_refl _⟩,hd σ H p⟩
theorem for_range {lo:Int} {n:Nat} {g:TG} {tb:TS} {D:Ends} {σ:St} {H:Hp} (Pv:Nat->St->Hp->Prop) (h0:Pv 0 σ H)
  (hs:∀ i σ H,i < n->Pv i σ H->g (.int (lo + i)) σ H fun σ2 H2=>tb { D with nx:=Pv (i + 1),ct:=Pv (i + 1),bk:=D.nx } σ2 H2) (hd:∀ σ H,Pv n σ H->D.nx σ H) :
  ∃ W:Nat->Nat->St->Hp->Prop,(∃ m,W 0 m σ H)/\∀ i m σ H,W i m σ H ->
   ((Itr lo n).stop i H/\D.nx σ H) \/ ((Itr lo n).go i H/\∃ N:St->Hp->Prop,(∀ σ' H',N σ' H'->∃ m',m' < m/\W (i + 1) m' σ' H')/\∀ x H',(Itr lo n).yld i H x H'->g x σ H' fun σ2 H2=>tb { D with nx:=N,ct:=N,bk:=D.nx } σ2 H2):=by
 refine ⟨fun i m σ H=>m=n - i/\i <= n/\Pv i σ H,⟨n,by simp,Nat.zero_le _,h0⟩,?_⟩
 rintro i m σ H ⟨rfl,hi,p⟩
 by_cases hlt:i < n
 ·refine .inr ⟨hlt,Pv (i + 1),fun σ' H' p'=>⟨n - (i + 1),by omega,rfl,hlt,p'⟩,fun x H' y=>?_⟩
  obtain ⟨e,y⟩:=y
  subst e y
  exact hs i σ _ hlt p
 ·have e:i=n:=by omega
  subst e
  exact .inl ⟨Nat.le_refl _,hd σ H p⟩
end L2
namespace L2
open PySem PySem.Spec PyProof.Rows
abbrev R2:=V->V->Hp->VK->Prop
def OpR (X:Cx) (f:Value->Value->Sem Value) (r:R2):Prop:=
 ∀ (pins:List (Addr × Obj)) (s:Shared) (σ:St) (H:Hp) (x y:V) (v u:Value) (Q:VK),Inv X pins σ H s->RelV x v->RelV y u->r x y H Q ->
  wpAny (model X.prog X.w) X.A (f v u) (EP X pins σ Q) X.xe s
def UnR (X:Cx) (f:Value->Sem Value) (r:V->Hp->VK->Prop):Prop:=
 ∀ (pins:List (Addr × Obj)) (s:Shared) (σ:St) (H:Hp) (x:V) (v:Value) (Q:VK),Inv X pins σ H s->RelV x v->r x H Q ->
  wpAny (model X.prog X.w) X.A (f v) (EP X pins σ Q) X.xe s
def CallR (X:Cx) (f:Value) (r:List V->Hp->VK->Prop):Prop:=
 ∀ (pins:List (Addr × Obj)) (s:Shared) (σ:St) (H:Hp) (xs:List V) (us:List Value) (Q:VK),Inv X pins σ H s->Vals xs us->r xs H Q ->
  wpAny (model X.prog X.w) X.A (call f us) (EP X pins σ Q) X.xe s
def TruR (X:Cx) (r:V->Hp->(Bool->Hp->Prop)->Prop):Prop:=
 ∀ (pins:List (Addr × Obj)) (s:Shared) (σ:St) (H:Hp) (x:V) (v:Value) (Q:Bool->Hp->Prop),Inv X pins σ H s->RelV x v->r x H Q ->
  wpAny (model X.prog X.w) X.A (truthy v) (TP X pins σ Q) X.xe s
def tOp (r:R2) (ta tb:TE):TE:=fun σ H Q=>ta σ H fun x H1=>tb σ H1 fun y H2=>r x y H2 Q
def tUn (r:V->Hp->VK->Prop) (ta:TE):TE:=fun σ H Q=>ta σ H fun x H1=>r x H1 Q
def rI (C:Int->Int->Prop) (g:Int->Int->V):R2:=fun x y H Q=>∃ i j,x=.int i/\y=.int j/\C i j/\Q (g i j) H
def rI0 (g:Int->Int->V):R2:=fun x y H Q=>∃ i j,x=.int i/\y=.int j/\Q (g i j) H
def rU (g:Int->V):V->Hp->VK->Prop:=fun x H Q=>∃ i,x=.int i/\Q (g i) H
section
variable {X:Cx} {a b c:Expr} {ta tb tc:TE} {pos:Pos}
theorem binT (ha:PE X a ta) (hb:PE X b tb) {pins:List (Addr × Obj)} {s:Shared} {σ:St} {H:Hp} {R:V->V->Hp->Prop} (I:Inv X pins σ H s)
  (h:ta σ H fun x H1=>tb σ H1 fun y H2=>R x y H2) {Q:Value->Shared->Prop} {f:Value->Value->Sem Value}
  (hf:∀ v u s2 x y H2,Inv X pins σ H2 s2->RelV x v->RelV y u->R x y H2->wpAny (model X.prog X.w) X.A (f v u) Q X.xe s2) :
  wpAny (model X.prog X.w) X.A (eval a X.env) (fun v s₁=>wpAny (model X.prog X.w) X.A (eval b X.env) (fun u s₂=>wpAny (model X.prog X.w) X.A (f v u) Q X.xe s₂) X.xe s₁) X.xe s:=by
 refine thn (ha pins s σ H _ I h) fun v s1 hz22=>?_
 obtain ⟨x,H1,I1,r1,q1⟩:=hz22
 refine thn (hb pins s1 σ H1 _ I1 q1) fun u s2 hz23=>?_
 obtain ⟨y,H2,I2,r2,q2⟩:=hz23
 exact hf v u s2 x y H2 I2 r1 r2 q2
theorem pe_op {op:Operator} {r:R2} (ho:OpR X (binaryOp op) r) (ha:PE X a ta) (hb:PE X b tb):PE X (.BinOp a op b pos) (tOp r ta tb):=by
 intro pins s σ H Q I h
 exact wpAny_BinOp (binT ha hb I h fun v u s2 x y H2 I2 rx ry q=>ho pins s2 σ H2 x y v u Q I2 rx ry q)
theorem pe_un {op:UnaryOp} {r:V->Hp->VK->Prop} (ho:UnR X (unaryOp op) r) (ha:PE X a ta):PE X (.UnaryOp op a pos) (tUn r ta):=by
 intro pins s σ H Q I h
 exact UnaryOp_ (thn (ha pins s σ H _ I h) fun v s1 ⟨x,H1,I1,r1,q1⟩=>ho pins s1 σ H1 x v Q I1 r1 q1)
theorem opI {f:Value->Value->Sem Value} {C:Int->Int->Prop} {g:Int->Int->Int}
  (rule:∀ (i j:Int) (t u:Tok) (s:Shared) (Q:Value->Shared->Prop) (E:Value->Shared->Prop),C i j->Q (.int (g i j) s.toks) { s with toks:=s.toks + 1 }->wpAny (model X.prog X.w) X.A (f (.int i t) (.int j u)) Q E s) :
  OpR X f (rI C fun i j=>.int (g i j)):=by
 intro pins s σ H x y v u Q I rx ry h
 obtain ⟨i,j,rfl,rfl,hc,q⟩:=h
 obtain ⟨t,rfl⟩:=rx
 obtain ⟨t',rfl⟩:=ry
 exact rule i j t t' s _ _ hc ⟨.int (g i j),H,I.tok _,⟨_,rfl⟩,q⟩
theorem opI0 {f:Value->Value->Sem Value} {g:Int->Int->Int}
  (rule:∀ (i j:Int) (t u:Tok) (s:Shared) (Q:Value->Shared->Prop) (E:Value->Shared->Prop),Q (.int (g i j) s.toks) { s with toks:=s.toks + 1 }->wpAny (model X.prog X.w) X.A (f (.int i t) (.int j u)) Q E s) :
  OpR X f (rI0 fun i j=>.int (g i j)):=by
 intro pins s σ H x y v u Q I rx ry h
 obtain ⟨i,j,rfl,rfl,q⟩:=h
 obtain ⟨t,rfl⟩:=rx
 obtain ⟨t',rfl⟩:=ry
 exact rule i j t t' s _ _ ⟨.int (g i j),H,I.tok _,⟨_,rfl⟩,q⟩
theorem opB0 {f:Value->Value->Sem Value} {g:Int->Int->Bool}
  (rule:∀ (i j:Int) (t u:Tok) (s:Shared) (Q:Value->Shared->Prop) (E:Value->Shared->Prop),Q (.bool (g i j)) s->wpAny (model X.prog X.w) X.A (f (.int i t) (.int j u)) Q E s) :
  OpR X f (rI0 fun i j=>.bl (g i j)):=by
 intro pins s σ H x y v u Q I rx ry h
 obtain ⟨i,j,rfl,rfl,q⟩:=h
 obtain ⟨t,rfl⟩:=rx
 obtain ⟨t',rfl⟩:=ry
 exact rule i j t t' s _ _ ⟨.bl (g i j),H,I,rfl,q⟩
def CDiv (i j:Int):Prop:=0 < j/\j < 1073741824
def CMul (i j:Int):Prop:=(-(2 ^ 64) < i/\i < 2 ^ 64) \/ (-(2 ^ 64) < j/\j < 2 ^ 64)
theorem CMul.ok {i j:Int} (h:CMul i j):IntMulOk i j:=by
 rcases h with ⟨h1,h2⟩ | ⟨h1,h2⟩
 ·exact .of_left (intBits_le_64 h1 h2)
 ·exact .of_right (intBits_le_64 h1 h2)
theorem op_add:OpR X (binaryOp .Add) (rI0 fun i j=>.int (i + j)):=opI0 fun _ _ _ _ _ _ _ q=>add_int q
theorem op_sub:OpR X (binaryOp .Sub) (rI0 fun i j=>.int (i - j)):=opI0 fun _ _ _ _ _ _ _ q=>sub_int q
theorem op_mul:OpR X (binaryOp .Mult) (rI CMul fun i j=>.int (i * j)):=opI fun _ _ _ _ _ _ _ hc q=>mul_int q hc.ok
theorem op_fdiv:OpR X (binaryOp .FloorDiv) (rI CDiv fun i j=>.int (i / j)):=opI fun i j _ _ _ _ _ hc q=>by
 have h1:(0:Int) < j:=hc.1
 have h2:j < 1073741824:=hc.2
 exact floordiv_int (by omega) (by rw [Int.fdiv_eq_ediv_of_nonneg i (by omega)];exact q) (.inl (PyProof.noPylong_small (by omega)))
theorem op_mod:OpR X (binaryOp .Mod) (rI (fun _ j=>0 < j) fun i j=>.int (i % j)):=opI fun i j _ _ _ _ _ hc q=>by
 have h1:(0:Int) < j:=hc
 exact mod_int' (by omega) (by rw [Int.fmod_eq_emod_of_nonneg i (by omega)];exact q)
theorem unI {f:Value->Sem Value} {g:Int->Int}
  (rule:∀ (i:Int) (t:Tok) (s:Shared) (Q:Value->Shared->Prop) (E:Value->Shared->Prop),Q (.int (g i) s.toks) { s with toks:=s.toks + 1 }->wpAny (model X.prog X.w) X.A (f (.int i t)) Q E s) :
  UnR X f (rU fun i=>.int (g i)):=by
 intro pins s σ H x v Q I rx h
 obtain ⟨i,rfl,q⟩:=h
 obtain ⟨t,rfl⟩:=rx
 exact rule i t s _ _ ⟨.int (g i),H,I.tok _,⟨_,rfl⟩,q⟩
theorem un_neg:UnR X (unaryOp .USub) (rU fun i=>.int (-i)):=unI fun _ _ _ _ _ q=>neg_int q
end
def scal:V->V->Bool
 | .non,.non=>true | .non,.int _=>true | .int _,.non=>true | .non,.bl _=>true | .bl _,.non=>true | .non,.str _=>true | .str _,.non=>true
 | .int _,.int _=>true | .bl _,.bl _=>true | .str _,.str _=>true | .byt _,.byt _=>true
 | .int _,.str _=>true | .str _,.int _=>true | .bl _,.str _=>true | .str _,.bl _=>true
 | _,_=>false
def rEq:R2:=fun x y H Q=>scal x y=true/\Q (.bl (decide (x=y))) H
def rNe:R2:=fun x y H Q=>scal x y=true/\Q (.bl (!decide (x=y))) H
theorem dec_int {i j:Int}:decide (V.int i=V.int j)=(i == j):=by
 rw [Bool.eq_iff_iff]
 simp
theorem dec_bl {i j:Bool}:decide (V.bl i=V.bl j)=(i == j):=by
 rw [Bool.eq_iff_iff]
 simp
theorem dec_str {i j:Str}:decide (V.str i=V.str j)=(i == j):=by
 rw [Bool.eq_iff_iff]
 simp
theorem dec_byt {i j:Array UInt8}:decide (V.byt i=V.byt j)=(i.toList == j.toList):=by
 rw [Bool.eq_iff_iff]
 cases i
 cases j
 simp
section
variable {X:Cx} {a b c:Expr} {ta tb tc:TE} {pos:Pos}
theorem fin_bl {pins:List (Addr × Obj)} {σ:St} {H:Hp} {s:Shared} {Q:VK} {k k':Bool} (I:Inv X pins σ H s) (q:Q (.bl k) H) (e:k=k'):EP X pins σ Q (.bool k') s:=by
 subst e
 exact ⟨.bl k,H,I,rfl,q⟩
theorem op_eq:OpR X (compareOp .Eq) rEq:=by
 intro pins s σ H x y v u Q I rx ry h
 obtain ⟨hs,q⟩:=h
 cases x with
 | non=>
  cases rx
  cases y with
  | non=>cases ry;exact PySem.EqNone.eq_none_none (fin_bl I q (by simp))
  | bl j=>cases ry;exact PySem.EqNone.eq_none_bool (fin_bl I q (by simp))
  | int j=>obtain ⟨t',rfl⟩:=ry;exact PySem.EqNone.eq_none_int (fin_bl I q (by simp))
  | str j=>obtain ⟨t',rfl⟩:=ry;exact PySem.EqNone.eq_none_str (fin_bl I q (by simp))
  | _=>exact absurd (show false=true from hs) Bool.false_ne_true
 | bl i=>
  cases rx
  cases y with
  | non=>cases ry;exact PySem.EqNone.eq_bool_none (fin_bl I q (by simp))
  | bl j=>cases ry;exact eq_bool (fin_bl I q dec_bl)
  | str j=>obtain ⟨t',rfl⟩:=ry;exact PySem.EqMixed.eq_bool_str (fin_bl I q (by simp))
  | _=>exact absurd (show false=true from hs) Bool.false_ne_true
 | int i=>
  obtain ⟨t,rfl⟩:=rx
  cases y with
  | non=>cases ry;exact PySem.EqNone.eq_int_none (fin_bl I q (by simp))
  | int j=>obtain ⟨t',rfl⟩:=ry;exact eq_int (fin_bl I q dec_int)
  | str j=>obtain ⟨t',rfl⟩:=ry;exact PySem.EqMixed.eq_int_str (fin_bl I q (by simp))
  | _=>exact absurd (show false=true from hs) Bool.false_ne_true
 | str i=>
  obtain ⟨t,rfl⟩:=rx
  cases y with
  | non=>cases ry;exact PySem.EqNone.eq_str_none (fin_bl I q (by simp))
  | bl j=>cases ry;exact PySem.EqMixed.eq_str_bool (fin_bl I q (by simp))
  | int j=>obtain ⟨t',rfl⟩:=ry;exact PySem.EqMixed.eq_str_int (fin_bl I q (by simp))
  | str j=>obtain ⟨t',rfl⟩:=ry;exact eq_str (fin_bl I q dec_str)
  | _=>exact absurd (show false=true from hs) Bool.false_ne_true
 | byt i=>
  obtain ⟨t,rfl⟩:=rx
  cases y with
  | byt j=>obtain ⟨t',rfl⟩:=ry;exact PySem.W.eq_bytes (fin_bl I q dec_byt)
  | _=>exact absurd (show false=true from hs) Bool.false_ne_true
 | _=>cases y <;> exact absurd (show false=true from hs) Bool.false_ne_true
theorem op_ne:OpR X (compareOp .NotEq) rNe:=by
 intro pins s σ H x y v u Q I rx ry h
 obtain ⟨hs,q⟩:=h
 cases x with
 | non=>
  cases rx
  cases y with
  | non=>cases ry;exact PySem.EqNone.ne_none_none (fin_bl I q (by simp))
  | bl j=>cases ry;exact PySem.EqNone.ne_none_bool (fin_bl I q (by simp))
  | int j=>obtain ⟨t',rfl⟩:=ry;exact PySem.EqNone.ne_none_int (fin_bl I q (by simp))
  | str j=>obtain ⟨t',rfl⟩:=ry;exact PySem.EqNone.ne_none_str (fin_bl I q (by simp))
  | _=>exact absurd (show false=true from hs) Bool.false_ne_true
 | bl i=>
  cases rx
  cases y with
  | non=>cases ry;exact PySem.EqNone.ne_bool_none (fin_bl I q (by simp))
  | bl j=>cases ry;exact ne_bool (fin_bl I q (congrArg not dec_bl))
  | str j=>obtain ⟨t',rfl⟩:=ry;exact PySem.EqMixed.ne_bool_str (fin_bl I q (by simp))
  | _=>exact absurd (show false=true from hs) Bool.false_ne_true
 | int i=>
  obtain ⟨t,rfl⟩:=rx
  cases y with
  | non=>cases ry;exact PySem.EqNone.ne_int_none (fin_bl I q (by simp))
  | int j=>obtain ⟨t',rfl⟩:=ry;exact ne_int (fin_bl I q (congrArg not dec_int))
  | str j=>obtain ⟨t',rfl⟩:=ry;exact PySem.EqMixed.ne_int_str (fin_bl I q (by simp))
  | _=>exact absurd (show false=true from hs) Bool.false_ne_true
 | str i=>
  obtain ⟨t,rfl⟩:=rx
  cases y with
  | non=>cases ry;exact PySem.EqNone.ne_str_none (fin_bl I q (by simp))
  | bl j=>cases ry;exact PySem.EqMixed.ne_str_bool (fin_bl I q (by simp))
  | int j=>obtain ⟨t',rfl⟩:=ry;exact PySem.EqMixed.ne_str_int (fin_bl I q (by simp))
  | str j=>obtain ⟨t',rfl⟩:=ry;exact ne_str (fin_bl I q (congrArg not dec_str))
  | _=>exact absurd (show false=true from hs) Bool.false_ne_true
 | byt i=>
  obtain ⟨t,rfl⟩:=rx
  cases y with
  | byt j=>obtain ⟨t',rfl⟩:=ry;exact PySem.W.ne_bytes (fin_bl I q (congrArg not dec_byt))
  | _=>exact absurd (show false=true from hs) Bool.false_ne_true
 | _=>cases y <;> exact absurd (show false=true from hs) Bool.false_ne_true
theorem op_lt:OpR X (compareOp .Lt) (rI0 fun i j=>.bl (decide (i < j))):=opB0 fun _ _ _ _ _ _ _ q=>lt_int q
theorem op_le:OpR X (compareOp .LtE) (rI0 fun i j=>.bl (decide (i <= j))):=opB0 fun _ _ _ _ _ _ _ q=>le_int q
theorem op_gt:OpR X (compareOp .Gt) (rI0 fun i j=>.bl (decide (j < i))):=opB0 fun _ _ _ _ _ _ _ q=>gt_int q
theorem op_ge:OpR X (compareOp .GtE) (rI0 fun i j=>.bl (decide (j <= i))):=opB0 fun _ _ _ _ _ _ _ q=>ge_int q
theorem op_in_str:OpR X (compareOp .In) (fun x y H Q=>∃ i j,x=.str i/\y=.str j/\Q (.bl (!(Builtin.Str.occurrences j i 0 j.length 1).isEmpty)) H):=by
 intro pins s σ H x y v u Q I rx ry h
 obtain ⟨i,j,rfl,rfl,q⟩:=h
 obtain ⟨t,rfl⟩:=rx
 obtain ⟨t',rfl⟩:=ry
 exact in_str (fin_bl I q rfl)
theorem nomark (b:Expr) {op:CmpOp} (h:op ≠ .In:=by decide) (h2:op ≠ .NotIn:=by decide):behindInMarks op b=false:=by
 have e1:(op == CmpOp.In)=false:=by cases op <;> first | rfl | exact absurd rfl h
 have e2:(op == CmpOp.NotIn)=false:=by cases op <;> first | rfl | exact absurd rfl h2
 cases b <;> simp [behindInMarks,e1,e2]
theorem pe_cmpR {op:CmpOp} {r:R2} (ho:OpR X (compareOp op) r) (ha:PE X a ta) (hb:PE X b tb) (hm:behindInMarks op b=false):PE X (.Compare a [op] [b] pos) (tOp r ta tb):=by
 intro pins s σ H Q I h
 exact wpAny_Compare1 (binT ha hb I h fun v u s2 x y H2 I2 rx ry q=>ho pins s2 σ H2 x y v u Q I2 rx ry q) hm
def tTest (t:TE):TT:=fun σ H Q=>t σ H fun x H'=>∃ k,x=.bl k/\Q k H'
theorem pt_cmpR {op:CmpOp} {r:R2} (ho:OpR X (compareOp op) r) (ha:PE X a ta) (hb:PE X b tb) (hm:behindInMarks op b=false):PT X (.Compare a [op] [b] pos) (tTest (tOp r ta tb)):=by
 intro pins s σ H Q I h
 refine wpAny_isTrue_Compare1 (thn (ha pins s σ H _ I h) fun v s1 ⟨x,H1,I1,r1,q1⟩=>thn (hb pins s1 σ H1 _ I1 q1) fun u s2 ⟨y,H2,I2,r2,q2⟩=>
  thn (ho pins s2 σ H2 x y v u _ I2 r1 r2 q2) fun c s3 ⟨z,H3,I3,r3,k,e,q3⟩=>?_) hm
 subst e
 cases r3
 exact wpAny_truthy_bool ⟨H3,I3,q3⟩
def tChain (r r':R2) (ta tb tc:TE):TE:=fun σ H Q=>ta σ H fun x H1=>tb σ H1 fun y H2=>r x y H2 fun z H3=>∃ k,z=.bl k /\
 (if k=true then tc σ H3 fun w' H4=>r' y w' H4 Q else Q (.bl false) H3)
theorem pe_chain {op op':CmpOp} {r r':R2} (ho:OpR X (compareOp op) r) (ho':OpR X (compareOp op') r') (ha:PE X a ta) (hb:PE X b tb) (hc:PE X c tc)
  (hm:lastMarks [op,op'] [b,c]=false:=by with_unfolding_all rfl):PE X (.Compare a [op,op'] [b,c] pos) (tChain r r' ta tb tc):=by
 intro pins s σ H Q I h
 refine Compare_chain (thn (ha pins s σ H _ I h) fun v s1 ⟨x,H1,I1,r1,q1⟩=>chain_link (thn (hb pins s1 σ H1 _ I1 q1) fun u s2 ⟨y,H2,I2,r2,q2⟩=>
  thn (ho pins s2 σ H2 x y v u _ I2 r1 r2 q2) fun d s3 ⟨z,H3,I3,r3,k,e,q3⟩=>?_)) hm
 subst e
 cases r3
 refine wpAny_truthy_bool ?_
 cases k with
 | false=>exact ite_ff ⟨.bl false,H3,I3,rfl,q3⟩
 | true=>exact ite_tt (chain_last (thn (hc pins s3 σ H3 _ I3 q3) fun w' s4 ⟨z',H4,I4,r4,q4⟩=>ho' pins s4 σ H4 y z' u w' Q I4 r2 r4 q4))
theorem pt_chain {op op':CmpOp} {r r':R2} (ho:OpR X (compareOp op) r) (ho':OpR X (compareOp op') r') (ha:PE X a ta) (hb:PE X b tb) (hc:PE X c tc)
  (hm:lastMarks [op,op'] [b,c]=false:=by with_unfolding_all rfl):PT X (.Compare a [op,op'] [b,c] pos) (tTest (tChain r r' ta tb tc)):=by
 intro pins s σ H Q I h
 refine isTrue_chain (thn (ha pins s σ H _ I h) fun v s1 ⟨x,H1,I1,r1,q1⟩=>test_link (thn (hb pins s1 σ H1 _ I1 q1) fun u s2 ⟨y,H2,I2,r2,q2⟩=>
  thn (ho pins s2 σ H2 x y v u _ I2 r1 r2 q2) fun d s3 ⟨z,H3,I3,r3,k,e,q3⟩=>?_)) hm
 subst e
 cases r3
 refine wpAny_truthy_bool ?_
 cases k with
 | false=>
  obtain ⟨k',e',q'⟩:=q3
  cases e'
  exact ite_ff ⟨H3,I3,q'⟩
 | true=>
  refine ite_tt (test_last (thn (hc pins s3 σ H3 _ I3 q3) fun w' s4 hz24=>?_))
  obtain ⟨z',H4,I4,r4,q4⟩:=hz24
  refine thn (ho' pins s4 σ H4 y z' u w' _ I4 r2 r4 q4) fun d' s5 hz25=>?_
  obtain ⟨z2,H5,I5,r5,k2,e2,q5⟩:=hz25
  subst e2
  cases r5
  exact wpAny_truthy_bool ⟨H5,I5,q5⟩
def TruV (K:PySem.W.Frag) (x:V) (H:Hp) (k:Bool):Prop:=
 match x with
 | .non=>k=false
 | .bl b=>k=b
 | .int i=>k=(i != 0)
 | .str y=>y.length <= sizeLine/\k=((y.length:Int) != 0)
 | .byt y=>y.size <= sizeLine/\k=((y.size:Int) != 0)
 | .ref p=>(∃ xs,SqL K H p xs/\k = !xs.isEmpty) \/ (∃ xs,SqT K H p xs/\k = !xs.isEmpty) \/ ∃ kvs,H p=some (.dK kvs)/\k = !kvs.isEmpty
 | _=>False
theorem isEmpty_kv {κ:Type} {kvs:List (κ × V)} {vs:List (κ × Value)} (r:KV kvs vs):(!vs.isEmpty) = !kvs.isEmpty:=by
 cases r <;> rfl
theorem isEmpty_of {xs:List V} {its:List Value} (r:Vals xs its):(!its.toArray.isEmpty) = !xs.isEmpty:=by
 cases r <;> simp
theorem line63:(sizeLine:Nat) < 2 ^ 63:=by rw [sizeLine_eq];decide
theorem tru_ok:TruR X (fun x H Q=>∃ k,TruV X.K x H k/\Q k H):=by
 intro pins s σ H x v Q I rx h
 obtain ⟨k,e,q⟩:=h
 have hl:=line63
 have hs:sizeLine=16777216:=sizeLine_eq
 cases x with
 | non=>
  cases rx
  have e':k=false:=e
  subst e'
  exact truthy_none ⟨H,I,q⟩
 | bl b=>
  cases rx
  have e':k=b:=e
  subst e'
  exact wpAny_truthy_bool ⟨H,I,q⟩
 | int i=>
  obtain ⟨t,rfl⟩:=rx
  have e':k=(i != 0):=e
  subst e'
  exact PySem.P.truthy_int ⟨H,I,q⟩
 | str y=>
  obtain ⟨t,rfl⟩:=rx
  obtain ⟨hy,e'⟩:y.length <= sizeLine/\k=((y.length:Int) != 0):=e
  subst e'
  exact PySem.P.truthy_str (by omega) ⟨H,I.tok _,q⟩
 | byt y=>
  obtain ⟨t,rfl⟩:=rx
  obtain ⟨hy,e'⟩:y.size <= sizeLine/\k=((y.size:Int) != 0):=e
  subst e'
  exact PySem.W.truthy_bytes (by omega) ⟨H,I.tok _,q⟩
 | ref p=>
  cases rx
  have e':(∃ xs,SqL X.K H p xs/\k = !xs.isEmpty) \/ (∃ xs,SqT X.K H p xs/\k = !xs.isEmpty) \/ ∃ kvs,H p=some (.dK kvs)/\k = !kvs.isEmpty:=e
  rcases e' with ⟨xs,hx,e'⟩ | ⟨xs,hx,e'⟩ | ⟨kvs,hx,e'⟩
  ·subst e'
   obtain ⟨its,r,pl,hz⟩:=I.list hx
   have hlen:=r.length
   exact wpAny_truthy_list pl.isList (by simp only [List.size_toArray];omega) ⟨H,I.tok _,by rw [isEmpty_of r];exact q⟩
  ·subst e'
   obtain ⟨its,r,pl,hz⟩:=I.tuple hx
   have hlen:=r.length
   exact truthy_tuple pl (by simp only [List.size_toArray];omega) ⟨H,I.tok _,by rw [isEmpty_of r];exact q⟩
  ·subst e'
   obtain ⟨hz,hS,vs,r,m⟩:kvs.length <= sizeLine/\(p == sysModules)=false/\∃ vs,KV kvs vs/\s.heap.DictOf (mixKind X.prog X.w) p vs:=I.hok p _ hx
   have hlen:kvs.length=vs.length:=Paired.length r
   exact wpAny_truthy_dict hS m (by omega) ⟨H,I.tok _,by rw [isEmpty_kv r];exact q⟩
 | _=>exact (show False from e).elim
theorem pt_truth (ha:PE X a ta) (he:∀ whole,isTrue a X.env whole=(do let v <- whole;standAt a.pos;holding [v] (truthy v))) :
  PT X a (fun σ H Q=>ta σ H fun x H'=>∃ k,TruV X.K x H' k/\Q k H'):=by
 intro pins s σ H Q I h
 exact isTrue_plain (thn (ha pins s σ H _ I h) fun v s1 ⟨x,H1,I1,r1,q1⟩=>tru_ok pins s1 σ H1 x v Q I1 r1 q1) (he _)
theorem op_add_str:OpR X (binaryOp .Add) (fun x y H Q=>∃ i j,x=.str i/\y=.str j/\i.length + j.length <= sizeLine/\Q (.str (i ++ j)) H):=by
 intro pins s σ H x y v u Q I rx ry h
 obtain ⟨i,j,rfl,rfl,hz,q⟩:=h
 obtain ⟨t,rfl⟩:=rx
 obtain ⟨t',rfl⟩:=ry
 exact add_str (fun t' tk=>⟨.str (i ++ j),H,I.tok _,⟨_,rfl⟩,q⟩) hz
theorem vals1 {x:V} {us:List Value} (r:Vals [x] us):∃ u,us=[u]/\RelV x u:=by
 cases r with
 | cons r1 r2=>cases r2;exact ⟨_,rfl,r1⟩
theorem vals2 {x y:V} {us:List Value} (r:Vals [x,y] us):∃ u w',us=[u,w']/\RelV x u/\RelV y w':=by
 cases r with
 | cons r1 r2=>
  cases r2 with
  | cons r3 r4=>cases r4;exact ⟨_,_,rfl,r1,r3⟩
theorem call_int1:CallR X (.type "int") (fun xs H Q=>(∃ i,xs=[.int i]/\Q (.int i) H) \/ ∃ k,xs=[.bl k]/\Q (.int (if k then 1 else 0)) H):=by
 intro pins s σ H xs us Q I r h
 rcases h with ⟨i,rfl,q⟩ | ⟨k,rfl,q⟩
 ·obtain ⟨u,rfl,t,rfl⟩:=vals1 r
  exact call_int_int ⟨.int i,H,I,⟨_,rfl⟩,q⟩
 ·obtain ⟨u,rfl,r1⟩:=vals1 r
  cases r1
  exact call_int_bool ⟨.int (if k then 1 else 0),H,I.tok _,⟨_,rfl⟩,q⟩
def LenV (K:PySem.W.Frag) (x:V) (H:Hp) (n:Nat):Prop:=
 match x with
 | .str y=>y.length <= sizeLine/\n=y.length
 | .byt y=>y.size <= sizeLine/\n=y.size
 | .ref p=>(∃ xs,SqL K H p xs/\n=xs.length) \/ ∃ xs,SqT K H p xs/\n=xs.length
 | _=>False
theorem call_len:CallR X (.builtin "len") (fun xs H Q=>∃ x n,xs=[x]/\LenV X.K x H n/\Q (.int n) H):=by
 intro pins s σ H xs us Q I r h
 obtain ⟨x,n,rfl,e,q⟩:=h
 obtain ⟨u,rfl,rx⟩:=vals1 r
 have hl:=line63
 have hs:sizeLine=16777216:=sizeLine_eq
 cases x with
 | str y=>
  obtain ⟨t,rfl⟩:=rx
  obtain ⟨hy,e'⟩:y.length <= sizeLine/\n=y.length:=e
  subst e'
  exact len_str (by omega) ⟨.int _,H,I.tok _,⟨_,rfl⟩,q⟩
 | byt y=>
  obtain ⟨t,rfl⟩:=rx
  obtain ⟨hy,e'⟩:y.size <= sizeLine/\n=y.size:=e
  subst e'
  exact PySem.W.len_bytes (by omega) ⟨.int _,H,I.tok _,⟨_,rfl⟩,q⟩
 | ref p=>
  cases rx
  have e':(∃ xs,SqL X.K H p xs/\n=xs.length) \/ ∃ xs,SqT X.K H p xs/\n=xs.length:=e
  rcases e' with ⟨xs,hx,e'⟩ | ⟨xs,hx,e'⟩
  ·subst e'
   obtain ⟨its,r',pl,hz⟩:=I.list hx
   have hlen:=r'.length
   exact Calls.call_len_list pl.isList (by simp only [List.size_toArray];omega) ⟨.int xs.length,H,I.tok _,⟨_,by simp only [List.size_toArray];rw [hlen]⟩,q⟩
  ·subst e'
   obtain ⟨its,r',pl,hz⟩:=I.tuple hx
   have hlen:=r'.length
   exact len_tuple pl (by simp only [List.size_toArray];omega) ⟨.int xs.length,H,I.tok _,⟨_,by simp only [List.size_toArray];rw [hlen]⟩,q⟩
 | _=>exact (show False from e).elim
end
end L2
namespace L2
open PySem PySem.Spec PyProof.Rows
structure ObjM (h:Heap) (x dx C:Addr) (mA:Str->Option Value):Prop where
 obj:h.get? x=some (PySem.W.instObj C dx)
 ns:h.Ns1 dx mA
 ne:dx ≠ x
theorem lookIn_ns {h:Heap} {dx:Addr} {mA:Str->Option Value} (n:h.Ns1 dx mA):∃ od,h.get? dx=some od/\∀ name,PySem.W.lookIn name od=some (mA name):=by
 obtain ⟨o,es,ep,ho,hd,hk,_,hm⟩:=n
 refine ⟨o,ho,fun name=>?_⟩
 have e:=hm name
 unfold nsFind findBy at e
 rw [<- Array.find?_toList] at e
 unfold PySem.W.lookIn
 rw [hd]
 dsimp only
 split
 ·rename_i y q
  rw [q] at e
  exact congrArg some e
 ·rename_i q
  rw [q] at e
  have a:es.toList.any (·.refKey)=false:=by
   rw [List.any_eq_false]
   intro y hy
   obtain ⟨z,t,hkey⟩:=hk y (Array.mem_toList_iff.mp hy)
   simp [DictEntry.refKey,hkey]
  have a':¬ es.toList.any (·.refKey)=true:=by rw [a];exact Bool.false_ne_true
  rw [if_neg a']
  exact congrArg some e
theorem ObjM.look {h:Heap} {x dx C:Addr} {mA:Str->Option Value} (I:ObjM h x dx C mA):∃ od,PySem.W.InstAt h x (PySem.W.instObj C dx) C (some od)/\∀ name,PySem.W.lookIn name od=some (mA name):=
 let ⟨od,ho,hl⟩:=lookIn_ns I.ns
 ⟨od,⟨I.obj,rfl,rfl,ho⟩,hl⟩
section
variable {prog:Program} {w:World} {A:Around} {E:Value->Shared->Prop} {s:Shared} {K:PySem.W.Frag} {x dx C f:Addr} {mA:Str->Option Value} {name:Str} {v:Value}
theorem get_map {expr:Bool} {Q:Value->Shared->Prop} (X:K.In s.heap) (I:ObjM s.heap x dx C mA) (hg:PySem.W.plainGet K C name=true) (hh:PySem.W.hasDictIn K C=true)
  (ha:PySem.W.findIn K (.ref C) name=some none) (hv:mA name=some v) (hv':PySem.W.handedIn v=true) (h:Q v { s with toks:=s.toks + 1 }) :
  wpAny (model prog w) A (getAttr (.ref x) name expr) Q E s:=by
 obtain ⟨od,J,hl⟩:=I.look
 exact PySem.W.get_value X J (PySem.W.plainGet_of hg).1 (PySem.W.findObj_own hh ha rfl (by rw [hl,hv])) hv' h
theorem get_meth {pl:Sem Bool} {Q:Value × List Value->Shared->Prop} (X:K.In s.heap) (I:ObjM s.heap x dx C mA) (hg:PySem.W.plainGet K C name=true)
  (hf:PySem.W.findIn K (.ref C) name=some (some (.ref f))) (ht:PySem.W.isFn K (.ref f)=true) (hv:mA name=none) (h:Q (.ref f,[.ref x]) s) :
  wpAny (model prog w) A (getMethod (.ref x) name pl) Q E s:=by
 obtain ⟨od,J,hl⟩:=I.look
 exact PySem.W.method_fn X J (PySem.W.plainGet_of hg).1 (PySem.W.plainGet_of hg).2 hf (beq_iff_eq.mp ht) (by show (PySem.W.lookIn name od).map (·.isSome)=some false;rw [hl,hv];rfl) h
theorem set_map {ns:List Str} {Q:Unit->Shared->Prop} (X:K.In s.heap) (I:ObjM s.heap x dx C mA)
  (hs:PySem.W.findIn K (.ref C) "__setattr__"=some (some (.builtin "object.__setattr__"))) (hp:PySem.W.plainOver K C=true) (ht:PySem.W.takerIn K C name=some none) (hh:PySem.W.hasDictIn K C=true)
  (hw:PySem.Within mA ns) (hsz:ns.length <= sizeLine)
  (h:∀ h',ObjM h' x dx C (fun y=>if y=name then some v else mA y)->Heap.SameBut dx s.heap h'->Q () { s with heap:=h',toks:=s.toks + 2 }) :
  wpAny (model prog w) A (setAttr (.ref x) name v) Q E s:=by
 obtain ⟨od,J,hl⟩:=I.look
 refine PySem.W.set_plain X J hs (PySem.W.osa_open (s:={ s with toks:=s.toks + 1 }) (r:=none) X J hp ht fun b=>?_)
 obtain ⟨cd,hc,hd'⟩:=PySem.W.any_some hh
 have hx:s.heap.get? x=some ⟨.ref C,some dx,.plain,#[]⟩:=I.obj
 refine wpAny_bind (wpAny_pure (wpAny_bind (wpAny_bind (wpAny_loadPart hx (wpAny_bind (PySem.W.Looks.here (s:={ s with toks:=s.toks + 1 }) (PySem.W.looks_clsIn X hc) ?_))))))
 rw [hd']
 refine wpAny_pure (a:=some dx) (wpAny_bind (wpAny_pure (wpAny_bind ?_)))
 refine wpAny_nsSet1 (s:={ s with toks:=s.toks + 1 }) I.ns fun h' hn2 hs2=>?_
 obtain ⟨oD,esD,epD,hoD,hdD,hcD⟩:=hn2.count (PySem.Within.cons name v hw)
 refine wpAny_bind (wpAny_lookBehind hoD (by rw [hdD];exact pastItsLine_dict (Nat.le_trans hcD (by rw [List.length_cons];omega))) ?_)
 exact wpAny_pure (h _ ⟨(hs2.2 _ (Ne.symm I.ne)).trans I.obj,hn2,I.ne⟩ hs2)
theorem make_map {R:Result->Shared->Prop} {vs:List Value} {kw:List (Str × Value)} (X:K.In s.heap) (hm:PySem.W.makesIn K C=true)
  (hi:PySem.W.findIn K (.ref C) "__init__"=some (some (.ref f))) (hf:PySem.W.typeIn K (.ref f)=some (.type "function"))
  (h:codeAny (model prog w) (A.under (.builtin "type.__call__" ⟨.ref C :: vs,kw⟩)) (.call (.ref f) ⟨.ref (s.heap.objs.size + 1) :: vs,kw⟩) (PySem.W.InitBack (s.heap.objs.size + 1) R)
   { s with heap:=(s.heap.push PySem.W.emptyDict).push (PySem.W.instObj C s.heap.objs.size) }) :
  codeAny (model prog w) A (.call (.ref C) ⟨vs,kw⟩) R s:=by
 obtain ⟨hh,g,d,t,os⟩:=s
 exact PySem.W.make_core (PySem.W.makes_of X hm) (PySem.W.looks_findIn X hi) (fun self=>PySem.W.bind_fn X self hf) (.inl rfl) h
end
def putF (f:Str) (v:V):List (Str × V)->List (Str × V)
 | []=>[(f,v)]
 | (g,x) :: r=>if g=f then (g,v) :: r else (g,x) :: putF f v r
theorem lookup_putF (f g:Str) (v:V):∀ fs:List (Str × V),(putF f v fs).lookup g=if g=f then some v else fs.lookup g
 | []=>by
  show List.lookup g [(f,v)]=_
  by_cases h:g=f
  ·have hb:(g == f)=true:=beq_iff_eq.mpr h
   simp only [List.lookup,hb,if_pos h]
  ·have hb:(g == f)=false:=beq_eq_false_iff_ne.mpr h
   simp only [List.lookup,hb,if_neg h]
 | (k,x) :: r=>by
  have ih:=lookup_putF f g v r
  rw [show putF f v ((k,x) :: r)=(if k=f then (k,v) :: r else (k,x) :: putF f v r) from rfl]
  by_cases hk:k=f
  ·rw [if_pos hk]
   by_cases h:g=k
   ·have hb:(g == k)=true:=beq_iff_eq.mpr h
    simp only [List.lookup,hb,if_pos (h.trans hk)]
   ·have hb:(g == k)=false:=beq_eq_false_iff_ne.mpr h
    simp only [List.lookup,hb,if_neg (fun e:g=f=>h (e.trans hk.symm))]
  ·rw [if_neg hk]
   by_cases h:g=k
   ·have hb:(g == k)=true:=beq_iff_eq.mpr h
    simp only [List.lookup,hb,if_neg (fun e:g=f=>hk (h.symm.trans e))]
   ·have hb:(g == k)=false:=beq_eq_false_iff_ne.mpr h
    simp only [List.lookup,hb]
    exact ih
theorem keys_putF (f:Str) (v:V):∀ fs:List (Str × V),f ∈ (putF f v fs).map (·.1)/\∀ g,g ∈ fs.map (·.1)->g ∈ (putF f v fs).map (·.1)
 | []=>⟨by simp [putF],fun g h=>by simp at h⟩
 | (k,x) :: r=>by
  obtain ⟨i1,i2⟩:=keys_putF f v r
  rw [show putF f v ((k,x) :: r)=(if k=f then (k,v) :: r else (k,x) :: putF f v r) from rfl]
  by_cases hk:k=f
  ·rw [if_pos hk]
   subst hk
   exact ⟨by simp,fun g h=>by simpa using h⟩
  ·rw [if_neg hk]
   refine ⟨?_,fun g h=>?_⟩
   ·rw [List.map_cons]
    exact List.mem_cons_of_mem _ i1
   ·rw [List.map_cons] at h ⊢
    rcases List.mem_cons.mp h with e | e
    ·exact List.mem_cons.mpr (.inl e)
    ·exact List.mem_cons_of_mem _ (i2 g e)
theorem length_putF (f:Str) (v:V):∀ fs:List (Str × V),(putF f v fs).length <= fs.length + 1
 | []=>by simp [putF]
 | (k,x) :: r=>by
  have ih:=length_putF f v r
  rw [show putF f v ((k,x) :: r)=(if k=f then (k,v) :: r else (k,x) :: putF f v r) from rfl]
  by_cases hk:k=f
  ·rw [if_pos hk,List.length_cons,List.length_cons];omega
  ·rw [if_neg hk,List.length_cons,List.length_cons];omega
theorem RelO.some_of {v:V} {o:Option Value} (r:RelO (some v) o):∃ u,o=some u/\RelV v u:=by
 cases o with
 | none=>exact (show False from r).elim
 | some u=>exact ⟨u,rfl,r⟩
theorem RelO.none_of {o:Option Value} (r:RelO none o):o=none:=by
 cases o with
 | none=>rfl
 | some u=>exact (show False from r).elim
theorem handed_of {v:V} {u:Value} (r:RelV v u):PySem.W.handedIn u=true:=by
 cases v with
 | non=>cases (show u=Value.none from r);rfl
 | bl b=>cases (show u=Value.bool b from r);rfl
 | int i=>obtain ⟨t,e⟩:=(show ∃ t,u=Value.int i t from r);cases e;rfl
 | str x=>obtain ⟨t,e⟩:=(show ∃ t,u=Value.str x t from r);cases e;rfl
 | byt b=>obtain ⟨t,e⟩:=(show ∃ t,u=Value.bytes b t from r);cases e;rfl
 | flt b=>obtain ⟨t,e⟩:=(show ∃ t,u=Value.float b t from r);cases e;rfl
 | ref a=>cases (show u=Value.ref a from r);rfl
 | ty n=>cases (show u=Value.type n from r);rfl
section
variable {P:Program} {w:World} {H H':Hp} {h h':Heap} {a C dx:Addr} {fs fs':List (Str × V)}
theorem ins_get (hok:HOk P w H h) (e:H a=some (.ins C dx fs)):∃ mA,ObjM h a dx C mA/\(∀ f,RelO (fs.lookup f) (mA f))/\PySem.Within mA (fs.map (·.1))/\fs.length <= 1000/\H dx=some (.own a):=by
 obtain ⟨d,z,ne,ob,mA,n,r,q⟩:=(show ObjOk P w H h a (.ins C dx fs) from hok a _ e)
 exact ⟨mA,⟨ob,n,ne⟩,r,q,z,d⟩
end
structure Cls (K:PySem.W.Frag) (C:Addr):Prop where
 pg:PySem.W.plainGet K C Str.empty=true
 hd:PySem.W.hasDictIn K C=true
 po:PySem.W.plainOver K C=true
 sa:PySem.W.findIn K (.ref C) "__setattr__"=some (some (.builtin "object.__setattr__"))
theorem Cls.get {K:PySem.W.Frag} {C:Addr} (c:Cls K C) (f:Str):PySem.W.plainGet K C f=true:=c.pg
def NoAttr (K:PySem.W.Frag) (C:Addr) (f:Str):Prop:=PySem.W.findIn K (.ref C) f=some none
theorem NoAttr.taker {K:PySem.W.Frag} {C:Addr} {f:Str} (n:NoAttr K C f):PySem.W.takerIn K C f=some none:=by
 unfold PySem.W.takerIn
 rw [show PySem.W.findIn K (.ref C) f=some none from n]
 rfl
structure Meth (K:PySem.W.Frag) (C:Addr) (m:Str) (f:Addr):Prop where
 at_:PySem.W.findIn K (.ref C) m=some (some (.ref f))
 fn:PySem.W.isFn K (.ref f)=true
 kp:PySem.W.keepIn K (.ref f)=true
section
variable {X:Cx} {pins:List (Addr × Obj)} {σ:St} {H:Hp} {s:Shared} {a C dx:Addr} {fs:List (Str × V)} {f:Str} {v:V} {A:Around} {E:Value->Shared->Prop}
theorem getattr_ok {b:Bool} {Q:Value->Shared->Prop} (I:Inv X pins σ H s) (e:H a=some (.ins C dx fs)) (c:Cls X.K C) (n:NoAttr X.K C f) (l:fs.lookup f=some v)
  (h:∀ u s',Inv X pins σ H s'->RelV v u->Q u s'):wpAny (model X.prog X.w) A (getAttr (.ref a) f b) Q E s:=by
 obtain ⟨mA,O,r,_,_,_⟩:=ins_get I.hok e
 obtain ⟨u,hu,ru⟩:=RelO.some_of (v:=v) (o:=mA f) (by rw [<- l];exact r f)
 exact get_map I.kIn O (c.get f) c.hd n hu (handed_of ru) (h u _ (I.tok _) ru)
theorem getmeth_ok {m:Str} {g:Addr} {pl:Sem Bool} {Q:Value × List Value->Shared->Prop} (I:Inv X pins σ H s) (e:H a=some (.ins C dx fs)) (c:Cls X.K C) (k:Meth X.K C m g) (l:fs.lookup m=none)
  (h:Q (.ref g,[.ref a]) s):wpAny (model X.prog X.w) A (getMethod (.ref a) m pl) Q E s:=by
 obtain ⟨mA,O,r,_,_,_⟩:=ins_get I.hok e
 have hn:mA m=none:=RelO.none_of (by rw [<- l];exact r m)
 exact get_meth I.kIn O (c.get m) k.at_ k.fn hn h
theorem setattr_ok {y:V} {u:Value} {Q:Unit->Shared->Prop} (I:Inv X pins σ H s) (e:H a=some (.ins C dx fs)) (c:Cls X.K C) (n:NoAttr X.K C f) (hl:fs.length < 1000) (ry:RelV y u)
  (h:∀ s',Inv X pins σ (upd H a (.ins C dx (putF f y fs))) s'->Q () s'):wpAny (model X.prog X.w) A (setAttr (.ref a) f u) Q E s:=by
 obtain ⟨mA,O,r,wi,_,ho⟩:=ins_get I.hok e
 have hz:(fs.map (·.1)).length <= sizeLine:=by rw [List.length_map,sizeLine_eq];omega
 refine set_map I.kIn O c.sa c.po n.taker c.hd wi hz fun h' O' sb=>h _ ?_
 have hd:∃ o,h'.get? dx=some o:=let ⟨o,_,_,e',_⟩:=O'.ns;⟨o,e'⟩
 refine I.write (x:=a) (e:=dx) (by rw [e];exact True.intro) (.inr ho) (fun b q hb z=>(sb.2 b hb).trans z) hd ?_
 refine ⟨by rw [upd_ne O.ne];exact ho,?_,O.ne,O'.obj,_,O'.ns,fun g=>?_,fun g hg=>?_⟩
 ·have:=length_putF f y fs;omega
 ·show RelO ((putF f y fs).lookup g) (if g=f then some u else mA g)
  rw [lookup_putF]
  by_cases q:g=f
  ·rw [if_pos q,if_pos q];exact ry
  ·rw [if_neg q,if_neg q];exact r g
 ·by_cases q:g=f
  ·rw [q];exact (keys_putF f y fs).1
  ·refine (keys_putF f y fs).2 g (wi g fun z=>hg ?_)
   show (if g=f then some u else mA g)=none
   rw [if_neg q];exact z
theorem Inv.made (I:Inv X pins σ H s):Inv X pins σ (upd (upd H s.heap.objs.size (.own (s.heap.objs.size + 1))) (s.heap.objs.size + 1) (.ins C s.heap.objs.size []))
  { s with heap:=(s.heap.push PySem.W.emptyDict).push (PySem.W.instObj C s.heap.objs.size) }:=by
 have e1:(s.heap.push PySem.W.emptyDict).get? s.heap.objs.size=some PySem.W.emptyDict:=Heap.get?_push_size s.heap rfl
 have e2:((s.heap.push PySem.W.emptyDict).push (PySem.W.instObj C s.heap.objs.size)).get? (s.heap.objs.size + 1)=some (PySem.W.instObj C s.heap.objs.size):=by
  have:=Heap.get?_push_size (s.heap.push PySem.W.emptyDict) (o:=PySem.W.instObj C s.heap.objs.size) rfl
  rwa [Heap.size_push] at this
 have e3:(s.heap.push PySem.W.emptyDict).Ns s.heap.objs.size (fun _=>none):=⟨PySem.W.emptyDict,#[],_,e1,rfl,(fun e he=>absurd he (by simp)),fun _=>rfl⟩
 have I1:=I.laid (a:=s.heap.objs.size) (o:=.own (s.heap.objs.size + 1)) (h':=s.heap.push PySem.W.emptyDict) (t':=s.toks) (fun b u q=>Heap.get?_push_of_some _ q) (Nat.le_refl _) ⟨_,e1⟩
 refine I1.laid (a:=s.heap.objs.size + 1) (o:=.ins C s.heap.objs.size []) (t':=s.toks) (fun b u q=>Heap.get?_push_of_some _ q) (Nat.le_of_eq (Heap.size_push _ _)) ?_
 have ne:s.heap.objs.size ≠ s.heap.objs.size + 1:=Nat.ne_of_lt (Nat.lt_succ_self _)
 refine ⟨by rw [upd_ne ne,upd_same],Nat.zero_le _,ne,e2,fun _=>none,(Heap.Ns1.of_empty e3).at fun o q=>Heap.get?_push_of_some _ q,fun _=>True.intro,fun y hy=>absurd rfl hy⟩
theorem attr_of {prog:Program} {w:World} {env:Env} {e:Expr} {f:Str} {pos:Pos} {s:Shared} {Q:Value->Shared->Prop} (hb:attributeBase e f env (eval e env)=eval e env)
  (h:wpAny (model prog w) A (eval e env) (fun o s₁=>wpAny (model prog w) A (getAttr o f true) Q E s₁) E s):wpAny (model prog w) A (eval (.Attribute e f pos) env) Q E s:=
 Attribute_any_ h (by rw [arm_eval_Attribute,hb])
end
def tFld (K:PySem.W.Frag) (ta:TE) (f:Str):TE:=fun σ H Q=>ta σ H fun x H1=>∃ a C dx fs v,x=.ref a/\H1 a=some (.ins C dx fs)/\Cls K C/\NoAttr K C f/\fs.lookup f=some v/\Q v H1
def sFld (K:PySem.W.Frag) (ta tv:TE) (f:Str):TS:=fun D σ H=>tv σ H fun y H1=>ta σ H1 fun x H2=>∃ a C dx fs,x=.ref a/\H2 a=some (.ins C dx fs)/\Cls K C/\NoAttr K C f/\fs.length < 1000 /\
 D.nx σ (upd H2 a (.ins C dx (putF f y fs)))
section
variable {X:Cx} {o e value:Expr} {f:Str} {pos pos' tpos:Pos} {ta tv:TE}
theorem pe_fld (he:PE X e ta) (hb:attributeBase e f X.env (eval e X.env)=eval e X.env):PE X (.Attribute e f pos) (tFld X.K ta f):=by
 intro pins s σ H Q I h
 refine attr_of hb (thn (he pins s σ H _ I h) fun u s1 hz26=>?_)
 obtain ⟨x,H1,I1,rx,a,C,dx,fs,v,ex,ea,c,n,l,q⟩:=hz26
 subst ex
 obtain rfl:u=Value.ref a:=rx
 exact getattr_ok I1 ea c n l fun u' s2 I2 ru=>⟨v,H1,I2,ru,q⟩
theorem ps_fld (ha:PE X o ta) (hv:PE X value tv) (hs:swapsWith value (some (.Attribute o f pos')) pos.line X.env=pure false):PS X (.Assign [.Attribute o f pos'] value pos) (sFld X.K ta tv f):=by
 intro pins s σ H D I h
 refine plainObj_wpAny_Assign_Attribute (thn (hv pins s σ H _ I h) fun u s1 hz27=>?_) hs
 obtain ⟨y,H1,I1,ry,q⟩:=hz27
 refine thn (ha pins s1 σ H1 _ I1 q) fun ov s2 hz28=>?_
 obtain ⟨x,H2,I2,rx,a,C,dx,fs,ex,ea,c,n,l,q2⟩:=hz28
 subst ex
 obtain rfl:ov=Value.ref a:=rx
 exact setattr_ok I2 ea c n l ry fun s3 I3=>⟨σ,_,I3,q2⟩
end
section
variable {X:Cx} {pins:List (Addr × Obj)} {σ:St} {H:Hp} {s:Shared} {A:Around} {E:Value->Shared->Prop} {Q:Value->Shared->Prop} {c:Value} {b:Bool}
inductive TyOf (K:PySem.W.Frag) (H:Hp):V->Value->Prop where
 | non:TyOf K H .non (.type "NoneType")
 | bl (x:Bool):TyOf K H (.bl x) (.type "bool")
 | int (i:Int):TyOf K H (.int i) (.type "int")
 | str (x:Str):TyOf K H (.str x) (.type "str")
 | flt (x:UInt64):TyOf K H (.flt x) (.type "float")
 | lst {a:Addr} {xs:List V} (e:H a=some (.lst xs)):TyOf K H (.ref a) (.type "list")
 | frz {a:Addr} {o:Obj} {xs:List V} (e:H a=some (.frz o (.lst xs))):TyOf K H (.ref a) (.type "list")
 | tup {a:Addr} {xs:List V} (e:H a=some (.tup xs)):TyOf K H (.ref a) (.type "tuple")
 | dK {a:Addr} {kvs:List (Key × V)} (e:H a=some (.dK kvs)):TyOf K H (.ref a) (.type "dict")
 | dT {a:Addr} {kvs:List (List Key × V)} (e:H a=some (.dT kvs)):TyOf K H (.ref a) (.type "dict")
 | ins {a C dx:Addr} {fs:List (Str × V)} (e:H a=some (.ins C dx fs)) (cl:Cls K C) (ha:PySem.W.findIn K (.ref C) "__class__"=some (some (.builtin "object.__class__")))
   (hn:PySem.W.specialIn K (.builtin "object.__class__") "__get__"=some (some (.builtin "getset_descriptor.__get__"))) (htk:PySem.W.takesIn K (.builtin "object.__class__")=some true)
   (hm:PySem.W.mroIn K C (.type "object")=some true):TyOf K H (.ref a) (.ref C)
theorem isinst_ok {x:V} {u t:Value} (I:Inv X pins σ H s) (rx:RelV x u) (ty:TyOf X.K H x t) (e:PySem.W.kitOne X.K t c=some b) (h:∀ tk,Q (.bool b) { s with toks:=tk }) :
  wpAny (model X.prog X.w) A (call (.builtin "isinstance") [u,c]) Q E s:=by
 cases ty with
 | non=>cases (show u=Value.none from rx);exact PySem.W.kia_one PySem.W.kitx_none I.kIn True.intro e (fun z=>nomatch z) h
 | bl y=>cases (show u=Value.bool y from rx);exact PySem.W.kia_one PySem.W.kitx_bool I.kIn True.intro e (fun z=>nomatch z) h
 | int i=>obtain ⟨t,q⟩:=(show ∃ t,u=Value.int i t from rx);cases q;exact PySem.W.kia_one PySem.W.kitx_int I.kIn True.intro e (fun z=>nomatch z) h
 | str y=>obtain ⟨t,q⟩:=(show ∃ t,u=Value.str y t from rx);cases q;exact PySem.W.kia_one PySem.W.kitx_str I.kIn True.intro e (fun z=>nomatch z) h
 | flt y=>obtain ⟨t,q⟩:=(show ∃ t,u=Value.float y t from rx);cases q;exact PySem.W.kia_one PySem.W.kitx_float I.kIn True.intro e (fun z=>nomatch z) h
 | @lst a xs ea=>
  cases (show u=Value.ref a from rx)
  obtain ⟨_,_,n,_,h1⟩:=(show ObjOk X.prog X.w H s.heap a (.lst xs) from I.hok a _ ea)
  exact PySem.W.kia_one PySem.W.kitx_list I.kIn ⟨_,h1,rfl⟩ e (fun z=>nomatch z) h
 | @frz a ob xs ea=>
  cases (show u=Value.ref a from rx)
  obtain ⟨_,_,_,n,_,h1⟩:=(show ObjOk X.prog X.w H s.heap a (.frz ob (.lst xs)) from I.hok a _ ea)
  exact PySem.W.kia_one PySem.W.kitx_list I.kIn ⟨_,h1,rfl⟩ e (fun z=>nomatch z) h
 | @tup a xs ea=>
  cases (show u=Value.ref a from rx)
  obtain ⟨_,_,_,p⟩:=(show ObjOk X.prog X.w H s.heap a (.tup xs) from I.hok a _ ea)
  obtain ⟨o,h1,h2,_⟩:=p
  exact PySem.W.kia_one PySem.W.kitx_tuple I.kIn ⟨o,h1,h2⟩ e (fun z=>nomatch z) h
 | @dK a kvs ea=>
  cases (show u=Value.ref a from rx)
  obtain ⟨_,_,vs,_,p⟩:=(show ObjOk X.prog X.w H s.heap a (.dK kvs) from I.hok a _ ea)
  obtain ⟨o,es,ep,h1,h2,_⟩:=p
  exact PySem.W.kia_one PySem.W.kitx_dict I.kIn ⟨o,h1,h2.1⟩ e (fun z=>nomatch z) h
 | @dT a kvs ea=>
  cases (show u=Value.ref a from rx)
  obtain ⟨_,_,xs,_,o,es,ep,h1,h2,_⟩:=(show ObjOk X.prog X.w H s.heap a (.dT kvs) from I.hok a _ ea)
  exact PySem.W.kia_one PySem.W.kitx_dict I.kIn ⟨o,h1,h2.1⟩ e (fun z=>nomatch z) h
 | @ins a C dx fs ea cl ha hn htk hm=>
  cases (show u=Value.ref a from rx)
  obtain ⟨mA,O,_⟩:=ins_get I.hok ea
  obtain ⟨od,J,_⟩:=O.look
  exact PySem.W.kia_one (PySem.W.kitx_own (cl.get _) cl.hd ha hn htk hm) I.kIn J e (fun z=>nomatch z) h
end
end L2
namespace L2
open PySem PySem.Spec PyProof.Rows
structure Room (k:Nat) (A:Around):Prop where
 hd:A.handled=none
 dp:A.depth + 3 * k + 5 < recursionLimit
 un:A.units + 16 * k + 200 < cLine
theorem Room.mono {j k:Nat} {A:Around} (r:Room k A) (h:j <= k):Room j A:=⟨r.hd,by have:=r.dp;omega,by have:=r.un;omega⟩
theorem Room.deeper {k:Nat} {A:Around} (r:Room (k + 1) A) (env:Env):Room k (A.deeper env):=
 ⟨r.hd,by have:=r.dp;show A.depth + 1 + 3 * k + 5 < _;omega,by have:=r.un;show A.units + 3 + 16 * k + 200 < _;omega⟩
theorem make_depth {A:Around} {C:Addr} {us:List Value} {kw:List (Str × Value)}:(A.under (.builtin "type.__call__" ⟨.ref C :: us,kw⟩)).depth=A.depth + 1:=by
 first | rfl | simp [Around.under,Code.weight,Code.isCreation,Code.isGuard,Code.isCaller,Code.frames,Code.isFrame,guardIds]
theorem make_units {A:Around} {C:Addr} {us:List Value} {kw:List (Str × Value)}:(A.under (.builtin "type.__call__" ⟨.ref C :: us,kw⟩)).units=A.units + 1:=by
 first | rfl | simp [Around.under,Code.cUnits,Code.frames,Code.isFrame]
theorem Room.make {k:Nat} {A:Around} (r:Room (k + 1) A) (C:Addr) (us:List Value) (kw:List (Str × Value)):Room k (A.under (.builtin "type.__call__" ⟨.ref C :: us,kw⟩)):=
 ⟨r.hd,by have:=r.dp;rw [make_depth];omega,by have:=r.un;rw [make_units];omega⟩
theorem Room.depth {k:Nat} {A:Around} (r:Room k A):A.depth < recursionLimit:=by have:=r.dp;omega
theorem Room.units {k:Nat} {A:Around} (r:Room k A):A.units + 64 < cLine:=by have:=r.un;omega
def tNil:TA:=fun _ H Q=>Q [] H
def tCons (ta:TE) (tr:TA):TA:=fun σ H Q=>ta σ H fun x H1=>tr σ H1 fun xs H2=>Q (x :: xs) H2
section
variable {X:Cx} {e:Expr} {es:List Expr} {te:TE} {t:TA} {pos:Pos}
theorem pa_nil:PA X [] tNil:=fun _ _ _ _ H Q I h=>Calls.spliced_nil ⟨[],H,I,.nil,h⟩
theorem pa_cons (ha:PE X e te) (hr:PA X es t) (hs:starEach (e :: es) X.env=(false,eval e X.env) :: starEach es X.env:=by rfl):PA X (e :: es) (tCons te t):=by
 intro pos pins s σ H Q I h
 rw [hs]
 show wpAny _ _ (spliced ((false,eval e X.env) :: backTo pos (starEach es X.env))) _ _ s
 refine Calls.spliced_cons (thn (ha pins s σ H _ I h) fun u s1 hz29=>?_)
 obtain ⟨x,H1,I1,r1,q1⟩:=hz29
 exact thn (hr pos pins s1 σ H1 _ I1 q1) fun us s2 ⟨xs,H2,I2,r2,q2⟩=>⟨x :: xs,H2,I2,.cons r1 r2,q2⟩
def tTup (t:TA):TE:=fun σ H Q=>t σ H fun xs H1=>xs.length <= sizeLine/\∀ p,H1 p=none->Q (.ref p) (upd H1 p (.tup xs))
def tLst (t:TA):TE:=fun σ H Q=>t σ H fun xs H1=>xs.length <= sizeLine/\∀ p,H1 p=none->Q (.ref p) (upd H1 p (.lst xs))
theorem pe_tup {x1} (h:PA X es t):PE X (.Tuple es x1 pos) (tTup t):=by
 intro pins s σ H Q I hq
 refine wpAny_Tuple_spliced (thn (h pos pins s σ H _ I hq) fun us s1 hz30=>?_)
 obtain ⟨xs,H1,I1,r,z,q⟩:=hz30
 refine ⟨by rw [<- r.length];exact z,?_⟩
 have hf:H1 s1.heap.objs.size=none:=I1.hok.fresh (Nat.le_refl _)
 refine ⟨.ref s1.heap.objs.size,upd H1 s1.heap.objs.size (.tup xs),I1.laid (t':=s1.toks) (fun b u e=>Heap.get?_push_of_some _ e) (Nat.le_refl _) ?_,rfl,q _ hf⟩
 exact ⟨z,us,r,⟨_,Heap.get?_push_size _ rfl,rfl,_,rfl⟩⟩
theorem pe_lst (h:PA X es t):PE X (.List es pos) (tLst t):=by
 intro pins s σ H Q I hq
 refine wpAny_List_spliced (thn (h pos pins s σ H _ I hq) fun us s1 hz31=>?_)
 obtain ⟨xs,H1,I1,r,z,q⟩:=hz31
 refine ⟨by rw [<- r.length];exact z,?_⟩
 have hf:H1 s1.heap.objs.size=none:=I1.hok.fresh (Nat.le_refl _)
 refine ⟨.ref s1.heap.objs.size,upd H1 s1.heap.objs.size (.lst xs),I1.laid (t':=s1.toks) (fun b u e=>Heap.get?_push_of_some _ e) (Nat.le_refl _) ?_,rfl,q _ hf⟩
 exact ⟨z,us,0,r,Heap.get?_push_size _ rfl⟩
end
abbrev Sp:=List V->Hp->VK->XK->Prop
abbrev CXT:=List Env->Hp->Shared->XK->Value->Shared->Prop
structure Env0 (P:Program) (w:World) (K:PySem.W.Frag) (mg:Str->Option Value) (base:Heap) (A:Around) (outer:List Env) (s:Shared) (H:Hp):Prop where
 frames:A.frames=some outer
 mod:Mod K mg base
 bs:∀ b o,base.get? b=some o->s.heap.get? b=some o/\H b=none
 bsz:base.objs.size <= s.heap.objs.size
 funs:s.heap.FunFrames base outer
 frf:∀ b ∈ frs outer,H b=none
 hok:HOk P w H s.heap
 bare:AllBare s.gens
def CE (outer:List Env) (P:Program) (w:World) (H:Hp) (s:Shared) (Q:VK) (u:Value) (s':Shared):Prop:=
 ∃ v H',s'.os=s.os/\AllBare s'.gens/\Un (frs outer) [] H H' s.heap s'.heap/\HOk P w H' s'.heap/\RelV v u/\Q v H'
def CR (CX:CXT) (outer:List Env) (P:Program) (w:World) (H:Hp) (s:Shared) (Q:VK) (E:XK) (r:Result) (s':Shared):Prop:=
 match r with
 | .ok (.ret u)=>CE outer P w H s Q u s'
 | .ok _=>False
 | .error e=>CX outer H s E e s'
structure FnOk (P:Program) (w:World) (K:PySem.W.Frag) (mg:Str->Option Value) (base:Heap) (CX:CXT) (k:Nat) (f:Addr) (fd:FuncData) (ps:List Str) (sp:Sp):Prop where
 len:∀ vs H Q E,sp vs H Q E->vs.length=ps.length
 run:∀ (A:Around) (outer:List Env) (s:Shared) (H:Hp) (args:Args) (us:List Value) (vs:List V) (Q:VK) (E:XK),Room k A->Env0 P w K mg base A outer s H->BindsTo s fd args (ps.zip us)->Vals vs us->sp vs H Q E ->
  codeAny (model P w) A (.call (.ref f) args) (CR CX outer P w H s Q E) s
theorem Env0.make {P:Program} {w:World} {K:PySem.W.Frag} {mg:Str->Option Value} {base:Heap} {A:Around} {outer:List Env} {s:Shared} {H:Hp} (e:Env0 P w K mg base A outer s H) (C:Addr) (us:List Value) (kw:List (Str × Value)) :
  Env0 P w K mg base (A.under (.builtin "type.__call__" ⟨.ref C :: us,kw⟩)) outer s H:=⟨by first | exact e.frames | (simpa [Around.under,Code.envs,Code.isFrame,pushEnvs] using e.frames),e.mod,e.bs,e.bsz,e.funs,e.frf,e.hok,e.bare⟩
section
variable {X:Cx} {pins:List (Addr × Obj)} {σ:St} {H:Hp} {s s':Shared}
theorem Inv.env0 (I:Inv X pins σ H s):Env0 X.prog X.w X.K X.mg X.base X.A X.stack s H:=
 ⟨I.ok.frames,I.ok.mod,I.bs,Nat.le_trans I.ok.bsz I.sz,I.stack,I.stkFree,I.hok,I.bare⟩
theorem Inv.after {Q:VK} {u:Value} (I:Inv X pins σ H s) (h:CE X.stack X.prog X.w H s Q u s'):EP X pins σ Q u s':=by
 obtain ⟨v,H',os,bare,un,hok,r,q⟩:=h
 obtain ⟨hh,g,d,t,os'⟩:=s'
 obtain rfl:os'=s.os:=os
 exact ⟨v,H',I.call (h':=hh) (g':=g) (d':=d) (t':=t) (ch:=[]) un hok bare (fun b z=>absurd z (by simp)),r,q⟩
end
def tCall (sp:Sp) (dvs:List V) (E:XK) (t:TA):TE:=fun σ H Q=>t σ H fun vs H1=>sp (vs ++ dvs) H1 Q E
def tMeth (C:Addr) (m:Str) (sp:Sp) (dvs:List V) (E:XK) (ta:TE) (t:TA):TE:=fun σ H Q=>ta σ H fun x H1=>∃ a dx fs,x=.ref a/\H1 a=some (.ins C dx fs)/\fs.lookup m=none /\
 t σ H1 fun vs H2=>sp (x :: (vs ++ dvs)) H2 Q E
def tMake (C:Addr) (sp:Sp) (dvs:List V) (E:XK) (t:TA):TE:=fun σ H Q=>t σ H fun vs H1=>∀ x dx,H1 x=none->H1 dx=none->dx ≠ x ->
 sp (.ref x :: (vs ++ dvs)) (upd (upd H1 dx (.own x)) x (.ins C dx [])) (fun v H2=>v=.non/\Q (.ref x) H2) E
def Binds (K:PySem.W.Frag) (fd:FuncData) (ps:List Str) (ds:List Value):Prop:=
 ∀ (s:Shared) (us:List Value),K.In s.heap->(us ++ ds).length=ps.length->BindsTo s fd ⟨us,[]⟩ (ps.zip (us ++ ds))
theorem Binds.all {K:PySem.W.Frag} {fd:FuncData} {ps:List Str} (h:∀ us:List Value,us.length=ps.length->bindArgs fd ⟨us,[]⟩=pure (ps.zip us)):Binds K fd ps []:=fun s us _ hl=>by
 rw [List.append_nil] at hl ⊢
 exact .of_eq (h us hl)
def Passes (CX:CXT) (X:Cx) (E:XK):Prop:=∀ (pins:List (Addr × Obj)) (σ:St) (H:Hp) (s:Shared) (e:Value) (s':Shared),Inv X pins σ H s->CX X.stack H s E e s'->X.xe e s'
section
variable {X:Cx} {CX:CXT} {k:Nat} {f C:Addr} {fd:FuncData} {ps:List Str} {sp:Sp} {dvs:List V} {ds:List Value} {E:XK} {x m:Str} {p pos apos:Pos} {e o:Expr} {es:List Expr} {ta:TE} {t:TA}
theorem run_fn {pins:List (Addr × Obj)} {σ:St} {H:Hp} {s:Shared} {Q:VK} {us:List Value} {vs:List V} (F:FnOk X.prog X.w X.K X.mg X.base CX k f fd ps sp) (hr:Room k X.A) (hb:Binds X.K fd ps ds) (hd:Vals dvs ds) (hx:Passes CX X E)
  (I:Inv X pins σ H s) (r:Vals vs us) (h:sp (vs ++ dvs) H Q E):wpAny (model X.prog X.w) X.A (call (.ref f) us) (EP X pins σ Q) X.xe s:=by
 have r2:Vals (vs ++ dvs) (us ++ ds):=r.append hd
 have hl:(us ++ ds).length=ps.length:=by rw [<- r2.length];exact F.len _ _ _ _ h
 refine wpAny_call (codeAny_mono (F.run X.A X.stack s H ⟨us,[]⟩ (us ++ ds) (vs ++ dvs) Q E hr I.env0 (hb s us I.kIn hl) r2 h) fun r s' hq=>?_)
 cases r with
 | error e=>exact hx pins σ H s e s' I hq
 | ok fl=>
  cases fl with
  | ret u=>exact I.after hq
  | next=>exact False.elim hq
  | brk=>exact False.elim hq
  | cont=>exact False.elim hq
theorem pe_call (F:FnOk X.prog X.w X.K X.mg X.base CX k f fd ps sp) (hr:Room k X.A) (hg:Gl X x) (hm:X.mg x=some (.ref f)) (hk:PySem.W.keepIn X.K (.ref f)=true) (hb:Binds X.K fd ps ds) (hd:Vals dvs ds) (hx:Passes CX X E)
  (ha:PA X (e :: es) t) (hdb:(x == ("__debug__" : Str))=false:=by decide) (he:starEach (e :: es) X.env=(false,eval e X.env) :: starEach es X.env:=by rfl) (hpl:(backTo pos (starEach es X.env)).any (·.1)=false:=by rfl) :
  PE X (.Call (.Name x p) (e :: es) [] pos) (tCall sp dvs E t):=by
 intro pins s σ H Q I h
 refine wpAny_Call_Name_kw (ld_glob I hg hm ?_ hdb)
 refine PySem.W.callWith_K (h₀:=X.base) I.ok.mod.kin hk (thn (ha pos pins s σ H _ I h) fun us s1 hz32=>?_) he hpl
 obtain ⟨vs,H1,I1,r,q⟩:=hz32
 refine ⟨I1.kIn,?_⟩
 exact run_fn F hr hb hd hx I1 r q
theorem pe_meth0 {pl:Sem Bool} (he:PE X o ta) (c:Cls X.K C) (hm:Meth X.K C m f) (F:FnOk X.prog X.w X.K X.mg X.base CX k f fd ps sp) (hr:Room k X.A) (hb:Binds X.K fd ps ds) (hd:Vals dvs ds) (hx:Passes CX X E)
  (ht:eval (.Call (.Attribute o m apos) [] [] pos) X.env=(do
   let ov <- eval o X.env
   standAt apos.atName
   let (f,first) <- holding [ov] (getMethod ov m pl)
   callWith pos f first (backTo pos (starEach [] X.env)) (backToKw pos (keywordEach [] X.env))):=by rfl) :
  PE X (.Call (.Attribute o m apos) [] [] pos) (tMeth C m sp dvs E ta tNil):=by
 intro pins s σ H Q I h
 refine PySem.W.methodCall_KW (pl:=pl) (thn (he pins s σ H _ I h) fun u s1 hz33=>?_) ht
 obtain ⟨x,H1,I1,rx,a,dx,fs,ex,ea,l,q⟩:=hz33
 subst ex
 obtain rfl:u=Value.ref a:=rx
 refine getmeth_ok I1 ea c hm l ?_
 exact PySem.W.callWith_K0 (first:=[.ref a]) I1.kIn hm.kp (run_fn (us:=[.ref a]) (vs:=[.ref a]) F hr hb hd hx I1 (.cons rfl .nil) q)
structure Mk (K:PySem.W.Frag) (C f:Addr):Prop where
 makes:PySem.W.makesIn K C=true
 init:PySem.W.findIn K (.ref C) "__init__"=some (some (.ref f))
 fn:PySem.W.isFn K (.ref f)=true
 kp:PySem.W.keepIn K (.ref C)=true
theorem run_make {pins:List (Addr × Obj)} {σ:St} {H:Hp} {s:Shared} {Q:VK} {us:List Value} {vs:List V} (M:Mk X.K C f) (F:FnOk X.prog X.w X.K X.mg X.base CX k f fd ps sp) (hr:Room (k + 1) X.A) (hb:Binds X.K fd ps ds) (hd:Vals dvs ds)
  (hx:Passes CX X E) (I:Inv X pins σ H s) (r:Vals vs us)
  (h:∀ x dx,H x=none->H dx=none->dx ≠ x->sp (.ref x :: (vs ++ dvs)) (upd (upd H dx (.own x)) x (.ins C dx [])) (fun v H2=>v=.non/\Q (.ref x) H2) E) :
  wpAny (model X.prog X.w) X.A (call (.ref C) us) (EP X pins σ Q) X.xe s:=by
 have hq:=h (s.heap.objs.size + 1) s.heap.objs.size (I.hok.fresh (Nat.le_succ _)) (I.hok.fresh (Nat.le_refl _)) (Nat.ne_of_lt (Nat.lt_succ_self _))
 have I2:=Inv.made (C:=C) I
 have r2:Vals (V.ref (s.heap.objs.size + 1) :: (vs ++ dvs)) (Value.ref (s.heap.objs.size + 1) :: (us ++ ds)):=.cons rfl (r.append hd)
 have hl:(Value.ref (s.heap.objs.size + 1) :: us ++ ds).length=ps.length:=by
  have e:=r2.length
  rw [F.len _ _ _ _ hq] at e
  exact e.symm
 refine wpAny_call (make_map (f:=f) I.kIn M.makes M.init (beq_iff_eq.mp M.fn) (codeAny_mono (F.run _ X.stack _ _ ⟨Value.ref (s.heap.objs.size + 1) :: us,[]⟩ (Value.ref (s.heap.objs.size + 1) :: (us ++ ds)) _ _ E (hr.make C us [])
  (I2.env0.make C us []) (hb _ (Value.ref (s.heap.objs.size + 1) :: us) I2.kIn hl) r2 hq) fun r s' hq'=>?_))
 cases r with
 | error e=>exact hx pins σ _ _ e s' I2 hq'
 | ok fl=>
  cases fl with
  | ret u=>
   obtain ⟨v,H',I3,rv,ev,q3⟩:=I2.after hq'
   subst ev
   exact ⟨rv,⟨V.ref (s.heap.objs.size + 1),H',I3,rfl,q3⟩⟩
  | next=>exact False.elim hq'
  | brk=>exact False.elim hq'
  | cont=>exact False.elim hq'
theorem pe_make (M:Mk X.K C f) (F:FnOk X.prog X.w X.K X.mg X.base CX k f fd ps sp) (hr:Room (k + 1) X.A) (hg:Gl X x) (hm:X.mg x=some (.ref C)) (hb:Binds X.K fd ps ds) (hd:Vals dvs ds) (hx:Passes CX X E)
  (ha:PA X (e :: es) t) (hdb:(x == ("__debug__" : Str))=false:=by decide) (he:starEach (e :: es) X.env=(false,eval e X.env) :: starEach es X.env:=by rfl) (hpl:(backTo pos (starEach es X.env)).any (·.1)=false:=by rfl) :
  PE X (.Call (.Name x p) (e :: es) [] pos) (tMake C sp dvs E t):=by
 intro pins s σ H Q I h
 refine wpAny_Call_Name_kw (ld_glob I hg hm ?_ hdb)
 refine PySem.W.callWith_K (h₀:=X.base) I.ok.mod.kin M.kp (thn (ha pos pins s σ H _ I h) fun us s1 hz34=>?_) he hpl
 obtain ⟨vs,H1,I1,r,q⟩:=hz34
 refine ⟨I1.kIn,?_⟩
 exact run_make M F hr hb hd hx I1 r q
end
section
variable {X:Cx} {CX:CXT} {k:Nat} {f C:Addr} {fd:FuncData} {ps ks:List Str} {sp:Sp} {E:XK} {x m:Str} {p pos apos kpos:Pos} {e o:Expr} {es:List Expr} {kws:List Keyword} {te ta:TE} {t tk:TA} {nm:Option Str}
variable {g:List Value->List Value->List Value} {gV:List V->List V->List V}
end
structure FnScope (N P:List Str) (sc:Scope):Prop where
 kind:sc.kind=.function
 co:sc.isCoroutine=false
 gen:sc.isGenerator=false
 nd:N.Nodup
 pre:N.take P.length=P
 par:∀ x ∈ P,sc.names.lookup x=some .local \/ sc.names.lookup x=some .cell
 nofree:∀ y ∈ sc.names,y.2 ≠ .free
theorem bindL_out {kindOf:Str->Option NameKind} {x:Str}:∀ {binds:List (Str × Value)} {m:Str->Option Value},(∀ v,(x,v) ∉ binds)->bindL kindOf binds m x=m x
 | [],_,_=>rfl
 | (n,v) :: r,m,h=>by
  unfold bindL
  rw [bindL_out fun w hw=>h w (List.mem_cons_of_mem _ hw)]
  split
  ·have:x ≠ n:=by rintro rfl;exact h v List.mem_cons_self
   simp [this]
  ·rfl
theorem bindC_out {kindOf:Str->Option NameKind} {x:Str}:∀ {binds:List (Str × Value)} {m:Str->Option Value},(∀ v,(x,v) ∉ binds)->bindC kindOf binds m x=m x
 | [],_,_=>rfl
 | (n,v) :: r,m,h=>by
  unfold bindC
  rw [bindC_out fun w hw=>h w (List.mem_cons_of_mem _ hw)]
  split
  ·rfl
  ·have:x ≠ n:=by rintro rfl;exact h v List.mem_cons_self
   simp [this]
theorem bindL_get {kindOf:Str->Option NameKind} {x:Str} {v:Value}:∀ {P:List Str} {vs:List Value} {i:Nat} {m:Str->Option Value},P.Nodup->P[i]?=some x->vs[i]?=some v->kindOf x=some .local ->
  bindL kindOf (P.zip vs) m x=some v
 | [],_,_,_,_,h,_,_=>by simp at h
 | _ :: _,[],_,_,_,_,h,_=>by simp at h
 | p :: P,w :: vs,0,m,nd,h1,h2,hk=>by
  simp at h1 h2;subst h1;subst h2
  show bindL kindOf ((p,w) :: P.zip vs) m p=_
  unfold bindL
  rw [bindL_out fun v hv=>(List.nodup_cons.mp nd).1 (List.of_mem_zip hv).1,if_pos hk]
  simp
 | p :: P,w :: vs,i + 1,m,nd,h1,h2,hk=>by
  show bindL kindOf ((p,w) :: P.zip vs) m x=_
  unfold bindL
  exact bindL_get (i:=i) (List.nodup_cons.mp nd).2 (by simpa using h1) (by simpa using h2) hk
theorem bindC_get {kindOf:Str->Option NameKind} {x:Str} {v:Value}:∀ {P:List Str} {vs:List Value} {i:Nat} {m:Str->Option Value},P.Nodup->P[i]?=some x->vs[i]?=some v->kindOf x ≠ some .local ->
  bindC kindOf (P.zip vs) m x=some v
 | [],_,_,_,_,h,_,_=>by simp at h
 | _ :: _,[],_,_,_,_,h,_=>by simp at h
 | p :: P,w :: vs,0,m,nd,h1,h2,hk=>by
  simp at h1 h2;subst h1;subst h2
  show bindC kindOf ((p,w) :: P.zip vs) m p=_
  unfold bindC
  rw [bindC_out fun v hv=>(List.nodup_cons.mp nd).1 (List.of_mem_zip hv).1,if_neg hk]
  simp
 | p :: P,w :: vs,i + 1,m,nd,h1,h2,hk=>by
  show bindC kindOf ((p,w) :: P.zip vs) m x=_
  unfold bindC
  exact bindC_get (i:=i) (List.nodup_cons.mp nd).2 (by simpa using h1) (by simpa using h2) hk
def start (N:List Str) (vs:List V):St:=vs.map some ++ List.replicate (N.length - vs.length) none
def cxOf (CX:CXT) (P:Program) (w:World) (K:PySem.W.Frag) (mg:Str->Option Value) (base:Heap) (N:List Str) (qual:Str) (scope:Scope) (f:Addr) (cd:Value) (A:Around) (outer:List Env) (s:Shared) (H:Hp) (E:XK):Cx where
 prog:=P
 w:=w
 K:=K
 mg:=mg
 base:=base
 A:=A.deeper (envOfC qual scope s.heap.objs.size f cd)
 N:=N
 s₀:=s
 H₀:=H
 env:=envOfC qual scope s.heap.objs.size f cd
 outer:=outer
 stack:=envOfC qual scope s.heap.objs.size f cd :: outer
 ex:=[]
 calm:=true
 fn:=fun _=>true
 pn:=[]
 xe:=fun e s'=>wpAny (model P w) (A.deeper (envOfC qual scope s.heap.objs.size f cd)) (leaving (envOfC qual scope s.heap.objs.size f cd) e) (fun _ s''=>CX outer H s E e s'') (fun e' s''=>CX outer H s E e' s'') s'
theorem cell_has {sc:Scope} {n:Nat} {x:Str} (h:sc.names.lookup x=some .cell):∃ c,(cellsFrom n sc.names []).lookup x=some c:=by
 have q:=PySem.W.cellsFrom_some sc.names n [] (.inl h)
 exact Option.isSome_iff_exists.mp q
theorem inv_start {CX:CXT} {P:Program} {w:World} {K:PySem.W.Frag} {mg:Str->Option Value} {base:Heap} {N ps:List Str} {qual:Str} {scope:Scope} {f:Addr} {cd:Value} {A:Around} {outer:List Env} {s s1:Shared} {H:Hp} {E:XK} {us:List Value} {vs:List V}
  (S:FnScope N ps scope) (hd:A.handled=none) (e0:Env0 P w K mg base A outer s H) (hl:vs.length=ps.length) (r:Vals vs us)
  (x:InCallC s s.heap.objs.size (bindL (envOfC qual scope s.heap.objs.size f cd).kindOf (ps.zip us) fun _=>none) (cellsFrom (s.heap.objs.size + 1) scope.names []) (bindC (envOfC qual scope s.heap.objs.size f cd).kindOf (ps.zip us) fun _=>none) s1) :
  Inv (cxOf CX P w K mg base N qual scope f cd A outer s H E) [] (start N vs) H s1:=by
 have hpl:ps.length <= N.length:=by have:=congrArg List.length S.pre;rw [List.length_take] at this;omega
 obtain ⟨h1,tk,rfl,hk⟩:=x.done
 have noA:∀ b:Addr,b ∉ (cxOf CX P w K mg base N qual scope f cd A outer s H E).ex:=fun b z=>absurd (show b ∈ ([]:List Addr) from z) (by simp)
 refine ⟨⟨e0.mod,S.kind,rfl,rfl,Nat.le_refl _,fun y z c h1 h2=>?_,fun y hy=>?_,fun y c _ h=>?_,fun _=>hd,Around.frames_deeper e0.frames,.inr ⟨rfl,rfl⟩,fun b z=>absurd z (noA b),e0.bs,e0.bsz,fun b _ _=>noA b,fun b z=>absurd z (noA b),e0.funs,e0.frf⟩,
  rfl,e0.bare,Un.kept hk,⟨_,x.toInCall.ns,fun i y v h1 h2 h3=>?_⟩,fun y c h=>⟨_,x.cell y c h⟩,e0.hok.fresh (Nat.le_refl _),fun y c h=>?_,fun p hp=>absurd (show p ∈ ([]:List (Addr × Obj)) from hp) (by simp),e0.hok.kept hk,?_⟩
 ·exact name_of_addr x.apart (PySem.mem_of_lookup h1) (PySem.mem_of_lookup h2)
 ·have hy:scope.names.lookup y=some .cell \/ scope.names.lookup y=some .free:=hy
  rcases hy with hy | hy
  ·exact cell_has hy
  ·exact absurd rfl (S.nofree _ (PySem.mem_of_lookup hy))
 ·exact Nat.le_of_lt (x.above y c (PySem.mem_of_lookup h))
 ·have hi:i < vs.length:=by
   unfold start at h2
   by_cases hi:i < vs.length
   ·exact hi
   ·rw [List.getElem?_append_right (by simpa using hi)] at h2
    rw [List.getElem?_replicate] at h2
    split at h2 <;> cases h2
  have ha:vs[i]?=some v:=by
   unfold start at h2
   rw [List.getElem?_append_left (by simpa using hi),List.getElem?_map] at h2
   cases e:vs[i]? with
   | none=>rw [e] at h2;cases h2
   | some a=>rw [e] at h2;cases h2;rfl
  obtain ⟨u,hu,rv⟩:=r.get ha
  have hp:ps[i]?=some y:=by
   rw [<- S.pre,List.getElem?_take_of_lt (by omega)];exact h1
  have ndP:ps.Nodup:=by rw [<- S.pre];exact S.nd.sublist (List.take_sublist _ _)
  refine ⟨u,rv,?_⟩
  rcases S.par y (List.mem_of_getElem? hp) with k | k
  ·exact .inl ⟨k,bindL_get ndP hp hu k⟩
  ·obtain ⟨c,e⟩:=cell_has (n:=s.heap.objs.size + 1) k
   refine .inr ⟨.inl k,c,e,?_⟩
   have q:=x.cell y c e
   rw [bindC_get ndP hp hu (by show scope.names.lookup y ≠ _;rw [k];decide)] at q
   exact q
 ·exact e0.hok.fresh (Nat.le_of_lt (x.above y c (PySem.mem_of_lookup h)))
 ·unfold start
  show _=N.length
  rw [List.length_append,List.length_map,List.length_replicate]
  omega
theorem fn_of {CX:CXT} {P:Program} {w:World} {K:PySem.W.Frag} {mg:Str->Option Value} {base:Heap} {k:Nat} {f:Addr} {name qual:Str} {params:Arguments} {body:List Stmt} {scope:Scope} {dV kV doc pm cdv ct oc:Value} {an od:Option Addr}
  {osl:Array (Option Value)} {N ps:List Str} {sp:Sp} (lk:K.lookup f=some ⟨oc,od,.func (PySem.W.fnOf name qual params body scope dV kV doc pm an cdv ct),osl⟩) (hcd:PySem.W.codeIn K cdv qual=true) (S:FnScope N ps scope)
  (len:∀ vs H Q E,sp vs H Q E->vs.length=ps.length)
  (hbody:∀ (A:Around) (outer:List Env) (s:Shared) (H:Hp) (vs:List V) (Q:VK) (E:XK),Room k (A.deeper (envOfC qual scope s.heap.objs.size f cdv))->sp vs H Q E ->
   ∃ t,PSs (cxOf CX P w K mg base N qual scope f cdv A outer s H E) body t/\t { nx:=fun _ H'=>Q .non H',rt:=Q } (start N vs) H) :
  FnOk P w K mg base CX (k + 1) f (PySem.W.fnOf name qual params body scope dV kV doc pm an cdv ct) ps sp:=by
 refine ⟨len,fun A outer s H args us vs Q E hr e0 hb r hsp=>?_⟩
 have hl:=len _ _ _ _ hsp
 have KX:K.In s.heap:=e0.mod.kin.keeps fun b o e=>(e0.bs b o e).1
 have lim:s.heap.NoLimit:=e0.mod.nolimit.keeps fun b o e=>(e0.bs b o e).1
 have hkind:∀ y ∈ ps.zip us,scope.names.lookup y.1=some .local \/ (scope.names.lookup y.1=some .cell/\((cellsFrom (s.heap.objs.size + 1) scope.names []).lookup y.1).isSome=true):=fun ⟨n,v⟩ hy=>by
  rcases S.par n (List.of_mem_zip hy).1 with q | q
  ·exact .inl q
  ·exact .inr ⟨q,PySem.W.cellsFrom_some _ _ _ (.inl q)⟩
 refine codeAny_call_function hr.depth (KX _ _ lk) rfl S.co S.gen rfl (PySem.W.codeRec_of KX hcd) (hb _ _ _ _ ?_)
 refine wpAny_newFunctionEnv_cells S.kind hkind fun env he s1 x=>?_
 subst he
 refine ⟨lim.keeps x.toInCall.keep,codeAny_func ?_⟩
 obtain ⟨t,ht,hq⟩:=hbody A outer s H vs Q E (hr.deeper _) hsp
 have I:Inv (cxOf CX P w K mg base N qual scope f cdv A outer s H E) [] (start N vs) H s1:=inv_start S hr.hd e0 hl r x
 refine wpAny_mono (ht [] s1 (start N vs) H _ I hq) (fun fl s' hs=>?_) fun e s' hs=>hs
 have fin:∀ {σ':St} {H':Hp} {v:V} {u:Value},Inv (cxOf CX P w K mg base N qual scope f cdv A outer s H E) [] σ' H' s'->RelV v u->Q v H'->CE outer P w H s Q u s':=
  fun {σ' H' v u} J rv q=>⟨v,H',J.os,J.bare,J.base,J.hok,rv,q⟩
 cases fl with
 | ret u=>
  obtain ⟨v,σ',H',J,rv,q⟩:=hs
  exact fin J rv q
 | next=>
  obtain ⟨σ',H',J,q⟩:=hs
  exact fin (v:=V.non) (u:=Value.none) J rfl q
 | brk=>
  obtain ⟨_,_,_,q⟩:=hs
  exact False.elim q
 | cont=>
  obtain ⟨_,_,_,q⟩:=hs
  exact False.elim q
end L2
namespace L2
open PySem PySem.Spec PyProof.Rows
section
variable {X:Cx} {x:Str} {p pos:Pos} {e:Expr} {es:List Expr} {t:TA} {id T:String} {r:List V->Hp->VK->Prop}
def tCB (r:List V->Hp->VK->Prop) (t:TA):TE:=fun σ H Q=>t σ H fun vs H1=>r vs H1 Q
theorem pe_callB (hc:CallR X (.builtin id) r) (hg:Gl X x) (hm:X.mg x=none) (hv:bootBuiltins x=some (.builtin id)) (ha:PA X (e :: es) t) (hn:x ≠ "__name__":=by decide) (hdb:(x == ("__debug__" : Str))=false:=by decide)
  (he:starEach (e :: es) X.env=(false,eval e X.env) :: starEach es X.env:=by rfl) (hpl:(backTo pos (starEach es X.env)).any (·.1)=false:=by rfl):PE X (.Call (.Name x p) (e :: es) [] pos) (tCB r t):=by
 intro pins s σ H Q I h
 refine wpAny_Call_Name_kw (ld_blt I hg hm hv ?_ hn hdb)
 exact PyProof.Rows.callWith_builtin1 (thn (ha pos pins s σ H _ I h) fun us s1 ⟨vs,H1,I1,r1,q1⟩=>hc pins s1 σ H1 vs us Q I1 r1 q1) he hpl
theorem pe_callTy (hc:CallR X (.type T) r) (hg:Gl X x) (hm:X.mg x=none) (hv:bootBuiltins x=some (.type T)) (ha:PA X (e :: es) t) (hn:x ≠ "__name__":=by decide) (hdb:(x == ("__debug__" : Str))=false:=by decide)
  (he:starEach (e :: es) X.env=(false,eval e X.env) :: starEach es X.env:=by rfl) (hpl:(backTo pos (starEach es X.env)).any (·.1)=false:=by rfl):PE X (.Call (.Name x p) (e :: es) [] pos) (tCB r t):=by
 intro pins s σ H Q I h
 refine wpAny_Call_Name_kw (ld_blt I hg hm hv ?_ hn hdb)
 exact PyProof.Rows.callWith_type1 (thn (ha pos pins s σ H _ I h) fun us s1 ⟨vs,H1,I1,r1,q1⟩=>hc pins s1 σ H1 vs us Q I1 r1 q1) he hpl
end
end L2
namespace HT
open PySem PyProof.Rows
section
open PySem.SeqAt
open PySem.AutoSeq1 (wpAny_loadPart')
open PySem.MeetsSeq PySem.MeetsSeq2 PySem.MeetsSeq3
end
section
variable {prog:Program} {w:World} {A:Around} {E:Value->Shared->Prop} {s:Shared}
def sIx (n d:Nat):Option Int->Nat
 | none=>d
 | some v=>if v < 0 then (v + (n:Int)).toNat else min v.toNat n
theorem sIx_none (n d:Nat):sIx n d none=d:=rfl
theorem sIx_nat (n d k:Nat):sIx n d (some (k:Int))=min k n:=by
 show (if (k:Int) < 0 then ((k:Int) + (n:Int)).toNat else min (k:Int).toNat n)=min k n
 rw [if_neg (by omega),Int.toNat_natCast]
theorem slicePart_ {v:Value} {o:Option Int} {Q:Option Int->Shared->Prop} (p:IsPart v o) (h:Q o s):wpAny (model prog w) A (Builtin.Slice.slicePartIndex v) Q E s:=by
 cases p with
 | none=>exact slicePart_none h
 | int i t=>exact slicePart_int h
end
end HT
namespace L2
open PySem PySem.Spec PyProof.Rows
abbrev TO:=St->Hp->(Option Int->Hp->Prop)->Prop
def PO (X:Cx) (e:Option Expr) (t:TO):Prop:=
 ∀ (pins:List (Addr × Obj)) (s:Shared) (σ:St) (H:Hp) (Q:Option Int->Hp->Prop),Inv X pins σ H s->t σ H Q ->
  wpAny (model X.prog X.w) X.A (evalPart e X.env) (fun u s'=>∃ o H',Inv X pins σ H' s'/\IsPart u o/\Q o H') X.xe s
def tNoPart:TO:=fun _ H Q=>Q none H
def tPart (t:TE):TO:=fun σ H Q=>t σ H fun x H1=>∃ i,x=.int i/\Q (some i) H1
section
variable {X:Cx} {e:Expr} {te:TE} {lo hi:Option Expr} {tl th:TO} {pos p2:Pos}
theorem po_none:PO X none tNoPart:=by
 intro pins s σ H Q I h
 rw [evalPart_none]
 exact wpAny_pure ⟨none,H,I,.none,h⟩
theorem po_some (h:PE X e te):PO X (some e) (tPart te):=by
 intro pins s σ H Q I hw
 rw [evalPart_some]
 refine thn (h pins s σ H _ I hw) fun u s1 hz35=>?_
 obtain ⟨x,H1,I1,r1,q1⟩:=hz35
 obtain ⟨i,rfl,q⟩:=q1
 obtain ⟨t,rfl⟩:=r1
 exact ⟨some i,H1,I1,.int i t,q⟩
def SlR (X:Cx) (r:V->Option Int->Option Int->Hp->VK->Prop):Prop:=
 ∀ (pins:List (Addr × Obj)) (s:Shared) (σ:St) (H:Hp) (x:V) (v vl vu:Value) (lo hi:Option Int) (sl:Addr) (Q:VK),Inv X pins σ H s->RelV x v->s.heap.IsSliceOf sl vl vu .none->IsPart vl lo->IsPart vu hi->r x lo hi H Q ->
  ∃ T id,typeLookup (.type T) "__getitem__"=pure (some (.builtin id))/\s.TypeIs v T/\wpAny (model X.prog X.w) X.A (getItem v (.ref sl)) (EP X pins σ Q) X.xe s
def tSl (r:V->Option Int->Option Int->Hp->VK->Prop) (te:TE) (tl th:TO):TE:=fun σ H Q=>te σ H fun x H1=>tl σ H1 fun l H2=>th σ H2 fun u H3=>r x l u H3 Q
theorem pe_slice {r:V->Option Int->Option Int->Hp->VK->Prop} (hr:SlR X r) (he:PE X e te) (hl:PO X lo tl) (hu:PO X hi th):PE X (.Subscript e (.Slice lo hi none p2) pos) (tSl r te tl th):=by
 intro pins s σ H Q I h
 refine Subscript_ (thn (he pins s σ H _ I h) fun v s1 hz36=>?_)
 obtain ⟨x,H1,I1,r1,q1⟩:=hz36
 refine wpAny_Slice (thn (hl pins s1 σ H1 _ I1 q1) fun vl s2 hz37=>?_)
 obtain ⟨l,H2,I2,pl,q2⟩:=hz37
 refine thn (hu pins s2 σ H2 _ I2 q2) fun vu s3 hz38=>?_
 obtain ⟨u,H3,I3,pu,q3⟩:=hz38
 rw [evalPart_none]
 refine wpAny_pure ?_
 have I4:Inv X pins σ H3 { s3 with heap:=s3.heap.push { cls:=.type "slice",data:=.fields #[vl,vu,.none] } }:=I3.kept (t':=s3.toks) fun b ob q=>Heap.get?_push_of_some _ q
 obtain ⟨T,id,hT,ht,hg⟩:=hr pins { s3 with heap:=s3.heap.push { cls:=.type "slice",data:=.fields #[vl,vu,.none] } } σ H3 x v vl vu l u s3.heap.objs.size Q I4 r1 (Heap.IsSliceOf.new ..) pl pu q3
 show wpAny (model X.prog X.w) X.A (subscriptTail e (.Slice lo hi none p2) v (.ref s3.heap.objs.size)) (EP X pins σ Q) X.xe { s3 with heap:=s3.heap.push { cls:=.type "slice",data:=.fields #[vl,vu,.none] } }
 exact tail_any (ops:=[.ref s3.heap.objs.size,v]) ht hT hg (by with_unfolding_all rfl)
def cutV (xs:List V) (lo hi:Option Int):List V:=(xs.drop (HT.sIx xs.length 0 lo)).take (HT.sIx xs.length xs.length hi - HT.sIx xs.length 0 lo)
theorem cutV_length (xs:List V) (lo hi:Option Int):(cutV xs lo hi).length <= xs.length:=by
 unfold cutV
 rw [List.length_take,List.length_drop]
 omega
end
end L2
namespace L2
open PySem PySem.Spec PyProof.Rows
def ixN (n:Nat) (i:Int):Option Nat:=if 0 <= i then (if i < n then some i.toNat else none) else if -(n:Int) <= i then some (i + n).toNat else none
def atI {α:Type} (xs:List α) (i:Int):Option α:=(ixN xs.length i).bind fun j=>xs[j]?
theorem ixN_seq {n:Nat} {i:Int} {j:Nat} (h:ixN n i=some j):seqIndex? i n=some j/\j < n/\-(n:Int) <= i/\i < n:=by
 unfold ixN at h
 by_cases h0:0 <= i
 ·rw [if_pos h0] at h
  by_cases h1:i < n
  ·rw [if_pos h1] at h
   have e:i.toNat=j:=Option.some.inj h
   exact ⟨by rw [seqIndex_of h0 h1,e],by omega,by omega,h1⟩
  ·rw [if_neg h1] at h;cases h
 ·rw [if_neg h0] at h
  by_cases h1:-(n:Int) <= i
  ·rw [if_pos h1] at h
   have e:(i + n).toNat=j:=Option.some.inj h
   exact ⟨by rw [seqIndex_neg (by omega) h1,e],by omega,h1,by omega⟩
  ·rw [if_neg h1] at h;cases h
theorem atI_get {α:Type} {xs:List α} {i:Int} {v:α} (h:atI xs i=some v):∃ j,seqIndex? i xs.length=some j/\xs[j]?=some v/\j < xs.length/\-(xs.length:Int) <= i/\i < xs.length:=by
 unfold atI at h
 cases e:ixN xs.length i with
 | none=>rw [e] at h;cases h
 | some j=>
  rw [e] at h
  obtain ⟨h1,h2,h3,h4⟩:=ixN_seq e
  exact ⟨j,h1,h,h2,h3,h4⟩
theorem atI_nat {α:Type} {xs:List α} {j:Nat} {v:α} (h:xs[j]?=some v):atI xs (j:Int)=some v:=by
 have hj:j < xs.length:=(List.getElem?_eq_some_iff.mp h).1
 have e:ixN xs.length (j:Int)=some j:=by
  unfold ixN
  rw [if_pos (by omega),if_pos (by omega)];simp
 unfold atI;rw [e];exact h
def PlainIx (b:Expr):Prop:=∀ o i,subscripted b false o i=operate [o,i] (getItem o i)
def IxR (X:Cx) (r:R2):Prop:=
 ∀ (value slice:Expr) (pins:List (Addr × Obj)) (s:Shared) (σ:St) (H:Hp) (x y:V) (v u:Value) (Q:VK),Inv X pins σ H s->RelV x v->RelV y u->r x y H Q ->
  subscripted slice false v u=operate [v,u] (getItem v u)->wpAny (model X.prog X.w) X.A (subscriptTail value slice v u) (EP X pins σ Q) X.xe s
def MtR (X:Cx) (id:String) (r:V->List V->Hp->VK->Prop):Prop:=
 ∀ (pins:List (Addr × Obj)) (s:Shared) (σ:St) (H:Hp) (x:V) (xs:List V) (v:Value) (us:List Value) (Q:VK),Inv X pins σ H s->RelV x v->Vals xs us->r x xs H Q ->
  wpAny (model X.prog X.w) X.A (call (.builtin id) (v :: us)) (EP X pins σ Q) X.xe s
section
variable {X:Cx} {a b:Expr} {ta tb:TE} {pos:Pos}
theorem pe_ix {r:R2} (hr:IxR X r) (ha:PE X a ta) (hb:PE X b tb) (hs:PlainIx b):PE X (.Subscript a b pos) (tOp r ta tb):=by
 intro pins s σ H Q I h
 exact Subscript_ (binT ha hb I h fun v u s2 x y H2 I2 rx ry q=>hr a b pins s2 σ H2 x y v u Q I2 rx ry q (hs _ _))
def rIxL (K:PySem.W.Frag):R2:=fun x y H Q=>∃ p xs i v,x=.ref p/\y=.int i/\SqL K H p xs/\atI xs i=some v/\Q v H
def rIxT (K:PySem.W.Frag):R2:=fun x y H Q=>∃ p xs i v,x=.ref p/\y=.int i/\SqT K H p xs/\atI xs i=some v/\Q v H
def rIxS:R2:=fun x y H Q=>∃ z i c,x=.str z/\y=.int i/\z.length <= sizeLine/\atI z.cps.toList i=some c/\Q (.str ⟨#[c]⟩) H
theorem ix_list:IxR X (rIxL X.K):=by
 intro value slice pins s σ H x y v u Q I rx ry h hs
 obtain ⟨p,xs,i,z,rfl,rfl,hq,he,q⟩:=h
 cases rx
 obtain ⟨t,rfl⟩:=ry
 obtain ⟨its,r,pl,hz⟩:=I.list hq
 obtain ⟨j,h1,h2,h3,h4,h5⟩:=atI_get he
 obtain ⟨w,ew,rw'⟩:=r.get h2
 have hl:=r.length
 have hn:=line63
 have fin:EP X pins σ Q w s:=⟨z,H,I,rw',q⟩
 by_cases h0:0 <= i
 ·have hj:i.toNat=j:=by
   rw [seqIndex_of h0 h5] at h1
   exact Option.some.inj h1
  exact item_listR pl.isList h0 (by omega) (by rw [hj];simpa using ew) fin hs
 ·have hj:(i + (its.toArray.size:Int)).toNat=j:=by
   rw [seqIndex_neg (by omega) h4] at h1
   rw [List.size_toArray,<- hl]
   exact Option.some.inj h1
  exact subscriptTail_builtinR (x:=w) pl.isList.typeIs slot_list_getitem.lookup
   (wpAny_getItem_list_neg (Q:=fun r s'=>r=w/\EP X pins σ Q r s') pl.isList (by omega) (by rw [List.size_toArray] <;> omega) (by omega) (by rw [hj];simpa using ew) ⟨rfl,fin⟩) hs
theorem ix_tup:IxR X (rIxT X.K):=by
 intro value slice pins s σ H x y v u Q I rx ry h hs
 obtain ⟨p,xs,i,z,rfl,rfl,hq,he,q⟩:=h
 cases rx
 obtain ⟨t,rfl⟩:=ry
 obtain ⟨its,r,pl,hz⟩:=I.tuple hq
 obtain ⟨j,h1,h2,h3,h4,h5⟩:=atI_get he
 obtain ⟨w,ew,rw'⟩:=r.get h2
 have hl:=r.length
 have hn:=line63
 have fin:EP X pins σ Q w s:=⟨z,H,I,rw',q⟩
 exact subscriptTail_builtinR (x:=w) pl.typeIs slot_tuple_getitem.lookup
  (getItem_tuple (j:=j) (Q:=fun r s'=>r=w/\EP X pins σ Q r s') pl (by omega) (by omega) (by rw [List.size_toArray,<- hl];exact h1) (by simpa using ew) ⟨rfl,fin⟩) hs
theorem ix_str:IxR X rIxS:=by
 intro value slice pins s σ H x y v u Q I rx ry h hs
 obtain ⟨z,i,c,rfl,rfl,hz,he,q⟩:=h
 obtain ⟨t,rfl⟩:=rx
 obtain ⟨t',rfl⟩:=ry
 obtain ⟨j,h1,h2,h3,h4,h5⟩:=atI_get he
 have hl:z.cps.toList.length=z.length:=by simp [Str.length]
 rw [hl] at h1 h4 h5
 have hn:=line63
 exact tail_any (typeIs_str s z t) slot_str_getitem.lookup (getItem_str (c:=c) (by
  have e1:decide (i < -(2 ^ 63:Int))=false:=decide_eq_false (by omega)
  have e2:decide (i >= 2 ^ 63)=false:=decide_eq_false (by omega)
  rw [e1,e2,Bool.or_false]) (by rw [h1];simpa using h2) ⟨.str ⟨#[c]⟩,H,I.tok _,⟨_,rfl⟩,q⟩) hs
theorem mapSeq_set (its:List Value) (n j:Nat) (u:Value):Obj.mapSeq (·.setIfInBounds j u) { cls:=.type "list",data:=.seq its.toArray n } = { cls:=.type "list",data:=.seq (its.set j u).toArray n }:=by
 simp [Obj.mapSeq]
theorem Inv.lst {pins:List (Addr × Obj)} {σ:St} {H:Hp} {s:Shared} {p:Addr} {xs:List V} (I:Inv X pins σ H s) (h:H p=some (.lst xs)) :
  ∃ (its:List Value) (n:Nat),Vals xs its/\s.heap.get? p=some { cls:=.type "list",data:=.seq its.toArray n }/\xs.length <= sizeLine:=by
 obtain ⟨z,its,n,r,e⟩:=I.hok p _ h
 exact ⟨its,n,r,e,z⟩
theorem Inv.lstUpd {pins:List (Addr × Obj)} {σ:St} {H:Hp} {s:Shared} {p:Addr} {xs ys:List V} {its its':List Value} {n n':Nat} {f:Obj->Obj} (I:Inv X pins σ H s) (h:H p=some (.lst xs))
  (ho:s.heap.get? p=some { cls:=.type "list",data:=.seq its.toArray n }) (hf:f { cls:=.type "list",data:=.seq its.toArray n } = { cls:=.type "list",data:=.seq its'.toArray n' }) (r:Vals ys its') (hz:ys.length <= sizeLine) (t:Nat) :
  Inv X pins σ (upd H p (.lst ys)) { s with heap:=s.heap.update p f,toks:=t }:=by
 have e:(s.heap.update p f).get? p=some { cls:=.type "list",data:=.seq its'.toArray n' }:=by
  rw [Heap.get?_update_self f ho (by rw [hf] <;> rfl),hf]
 refine I.write (x:=p) (e:=p) (by rw [h];trivial) (.inl rfl) (fun b u hb q=>(Heap.get?_update_other _ _ (Ne.symm hb)).trans q) ⟨_,e⟩ ?_
 exact ⟨hz,its',n',r,e⟩
def rSetL:V->V->V->Hp->(Hp->Prop)->Prop:=fun o i v H Q=>∃ p xs k j,o=.ref p/\i=.int k/\H p=some (.lst xs)/\ixN xs.length k=some j/\Q (upd H p (.lst (xs.set j v)))
theorem set_list:PSet X rSetL:=by
 intro pins s σ H o i v ov iv u Q I ro ri rv h
 obtain ⟨p,xs,k,j,rfl,rfl,hp,hj,q⟩:=h
 cases ro
 obtain ⟨t,rfl⟩:=ri
 obtain ⟨its,n,r,ho,hz⟩:=I.lst hp
 obtain ⟨h1,h2,h3,h4⟩:=ixN_seq hj
 have hl:=r.length
 have hn:=line63
 have I':Inv X pins σ (upd H p (.lst (xs.set j v))) { s with heap:=s.heap.update p (Obj.mapSeq (·.setIfInBounds j u)) }:=
  I.lstUpd hp ho (mapSeq_set its n j u) (r.set rv j) (by rw [List.length_set];exact hz) s.toks
 by_cases h0:0 <= k
 ·have hk:k.toNat=j:=by
   rw [seqIndex_of h0 h4] at h1
   exact Option.some.inj h1
  exact PySem.W.ki_setAt ho h0 (by omega) (by rw [List.size_toArray,<- hl];exact h4) (by rw [hk];exact ⟨_,I',q⟩)
 ·have hk:(k + (its.toArray.size:Int)).toNat=j:=by
   rw [seqIndex_neg (by omega) h3] at h1
   rw [List.size_toArray,<- hl]
   exact Option.some.inj h1
  exact PySem.W.ki_setBack ho (by omega) (by rw [List.size_toArray,<- hl];exact h3) (by omega) (by rw [hk];exact ⟨_,I',q⟩)
theorem slice_bounds (lo hi:Option Int) (n:Nat):(sliceBounds lo hi none n).1=((HT.sIx n 0 lo:Nat):Int)/\(sliceBounds lo hi none n).2.1=((HT.sIx n n hi:Nat):Int)/\(sliceBounds lo hi none n).2.2=1:=by
 refine ⟨?_,?_,rfl⟩
 ·cases lo with
  | none=>simp [sliceBounds,HT.sIx]
  | some i=>
   simp only [sliceBounds,HT.sIx,Option.getD_none,show (1:Int) > 0 by decide,if_true]
   by_cases h:i < 0
   ·simp only [h,if_true] <;> omega
   ·simp only [h,if_false] <;> omega
 ·cases hi with
  | none=>simp [sliceBounds,HT.sIx]
  | some i=>
   simp only [sliceBounds,HT.sIx,Option.getD_none,show (1:Int) > 0 by decide,if_true]
   by_cases h:i < 0
   ·simp only [h,if_true] <;> omega
   ·simp only [h,if_false] <;> omega
theorem slicePick_cut (its:List Value) (lo hi:Option Int):slicePick its.toArray lo hi none=((its.drop (HT.sIx its.length 0 lo)).take (HT.sIx its.length its.length hi - HT.sIx its.length 0 lo)).toArray:=by
 obtain ⟨h1,h2,h3⟩:=slice_bounds lo hi its.toArray.size
 unfold slicePick
 rw [h1,h2,h3]
 simp only [sliceRange_one,pick_run,List.size_toArray] <;> rfl
def rSlL (K:PySem.W.Frag):V->Option Int->Option Int->Hp->VK->Prop:=fun x lo hi H Q=>∃ a xs,x=.ref a/\SqL K H a xs/\∀ p,H p=none->Q (.ref p) (upd H p (.lst (cutV xs lo hi)))
theorem sl_list:SlR X (rSlL X.K):=by
 intro pins s σ H x v vl vu lo hi sl Q I rx hs pl pu h
 obtain ⟨a,xs,rfl,hx,q⟩:=h
 cases rx
 obtain ⟨its,r,ht,hz⟩:=I.list hx
 have hlen:=r.length
 refine ⟨"list",_,slot_list_getitem.lookup,ht.isList.typeIs,?_⟩
 refine wpAny_getItem_list_slice ht.isList hs pl pu .none (by simp) ?_ (by rw [List.size_toArray] <;> omega)
 rw [slicePick_cut,<- hlen]
 refine ⟨.ref s.heap.objs.size,_,I.laid (t':=s.toks) (o:=.lst (cutV xs lo hi)) (fun b ob q=>Heap.get?_push_of_some _ q) (Nat.le_refl _) ?_,rfl,q _ (I.hok.fresh (Nat.le_refl _))⟩
 exact ⟨Nat.le_trans (cutV_length xs lo hi) hz,_,0,(r.drop (HT.sIx xs.length 0 lo)).take (HT.sIx xs.length xs.length hi - HT.sIx xs.length 0 lo),Heap.get?_push_size _ rfl⟩
def flatV:V->Bool
 | .non=>true
 | .bl _=>true
 | .int _=>true
 | .str _=>true
 | _=>false
def eqV:V->V->Bool
 | .non,.non=>true
 | .bl a,.bl b=>a == b
 | .bl a,.int b=>(if a then 1 else 0) == b
 | .int a,.bl b=>a == (if b then 1 else 0)
 | .int a,.int b=>a == b
 | .str a,.str b=>a == b
 | _,_=>false
theorem eqAt_V {A:Around} {s:Shared} {y x:V} {u v:Value} (ry:RelV y u) (rx:RelV x v) (fy:flatV y=true) (fx:flatV x=true):SeqAt.EqAt A s u v (eqV y x):=by
 cases y with
 | non=>
  cases ry
  cases x with
  | non=>cases rx;exact SeqAt.EqAt.same _
  | bl b=>cases rx;exact SeqAt.EqAt.none_bool b
  | int b=>obtain ⟨t,rfl⟩:=rx;exact SeqAt.EqAt.none_int b t
  | str b=>obtain ⟨t,rfl⟩:=rx;exact SeqAt.EqAt.none_str b t
  | _=>exact absurd (show false=true from fx) Bool.false_ne_true
 | bl a=>
  cases ry
  cases x with
  | non=>cases rx;exact SeqAt.EqAt.bool_none a
  | bl b=>cases rx;exact SeqAt.EqAt.bool_bool a b
  | int b=>obtain ⟨t,rfl⟩:=rx;exact SeqAt.EqAt.bool_int a b t
  | str b=>obtain ⟨t,rfl⟩:=rx;exact SeqAt.EqAt.bool_str a b t
  | _=>exact absurd (show false=true from fx) Bool.false_ne_true
 | int a=>
  obtain ⟨t',rfl⟩:=ry
  cases x with
  | non=>cases rx;exact SeqAt.EqAt.int_none a t'
  | bl b=>cases rx;exact SeqAt.EqAt.int_bool a t' b
  | int b=>obtain ⟨t,rfl⟩:=rx;exact SeqAt.EqAt.int_int a t' b t
  | str b=>obtain ⟨t,rfl⟩:=rx;exact SeqAt.EqAt.int_str a t' b t
  | _=>exact absurd (show false=true from fx) Bool.false_ne_true
 | str a=>
  obtain ⟨t',rfl⟩:=ry
  cases x with
  | non=>cases rx;exact SeqAt.EqAt.str_none a t'
  | bl b=>cases rx;exact SeqAt.EqAt.str_bool a t' b
  | int b=>obtain ⟨t,rfl⟩:=rx;exact SeqAt.EqAt.str_int a t' b t
  | str b=>obtain ⟨t,rfl⟩:=rx;exact SeqAt.EqAt.str_str a t' b t
  | _=>exact absurd (show false=true from fx) Bool.false_ne_true
 | _=>exact absurd (show false=true from fy) Bool.false_ne_true
def eqU (x:V) (u:Value):Bool:=match u with
 | .none=>eqV .non x
 | .bool b=>eqV (.bl b) x
 | .int i _=>eqV (.int i) x
 | .str z _=>eqV (.str z) x
 | _=>false
theorem eqU_of {x y:V} {u:Value} (r:RelV y u) (f:flatV y=true):eqU x u=eqV y x:=by
 cases y with
 | non=>cases r;rfl
 | bl b=>cases r;rfl
 | int i=>obtain ⟨t,rfl⟩:=r;rfl
 | str z=>obtain ⟨t,rfl⟩:=r;rfl
 | _=>exact absurd (show false=true from f) Bool.false_ne_true
theorem any_eqU {x:V}:∀ {xs:List V} {us:List Value},Vals xs us->xs.all flatV=true->us.any (eqU x)=xs.any fun y=>eqV y x
 | _,_,.nil,_=>rfl
 | y :: xs,u :: us,.cons r t,f=>by
  rw [List.all_cons,Bool.and_eq_true] at f
  rw [List.any_cons,List.any_cons,eqU_of r f.1,any_eqU t f.2]
theorem mem_eqAt {A:Around} {s:Shared} {x:V} {v:Value} (rx:RelV x v) (fx:flatV x=true):∀ {xs:List V} {us:List Value},Vals xs us->xs.all flatV=true->∀ u ∈ us,SeqAt.EqAt A s u v (eqU x u)
 | _,_,.nil,_=>fun u hu=>by cases hu
 | y :: xs,u :: us,.cons r t,f=>fun u' hu=>by
  rw [List.all_cons,Bool.and_eq_true] at f
  rcases List.mem_cons.mp hu with rfl | hu
  ·rw [eqU_of r f.1];exact eqAt_V r rx f.1 fx
  ·exact mem_eqAt rx fx t f.2 u' hu
def inV (x:V) (xs:List V):Bool:=xs.any fun y=>eqV y x
def rIn (K:PySem.W.Frag) (neg:Bool):R2:=fun x y H Q=>∃ p xs,y=.ref p/\(SqL K H p xs \/ SqT K H p xs)/\flatV x=true/\xs.all flatV=true/\Q (.bl (if neg then !inV x xs else inV x xs)) H
theorem op_in_seq:OpR X (compareOp .In) (rIn X.K false):=by
 intro pins s σ H x y v u Q I rx ry h
 obtain ⟨p,xs,rfl,hq,fx,fs,q⟩:=h
 cases ry
 rcases hq with hq | hq
 ·obtain ⟨its,r,pl,hz⟩:=I.list hq
  refine SeqAt.in_listAt (eqU x) pl.isList (fun w hw=>mem_eqAt rx fx r fs w (by simpa using hw)) ⟨.bl _,H,I,rfl,?_⟩
  rw [show its.toArray.any (eqU x)=its.any (eqU x) by simp,any_eqU r fs]
  exact q
 ·obtain ⟨its,r,pl,hz⟩:=I.tuple hq
  refine SeqAt.in_tupleAt (eqU x) pl (fun w hw=>mem_eqAt rx fx r fs w (by simpa using hw)) ⟨.bl _,H,I,rfl,?_⟩
  rw [show its.toArray.any (eqU x)=its.any (eqU x) by simp,any_eqU r fs]
  exact q
theorem op_notIn_seq:OpR X (compareOp .NotIn) (rIn X.K true):=by
 intro pins s σ H x y v u Q I rx ry h
 obtain ⟨p,xs,rfl,hq,fx,fs,q⟩:=h
 cases ry
 rcases hq with hq | hq
 ·obtain ⟨its,r,pl,hz⟩:=I.list hq
  refine SeqAt.notIn_listAt (eqU x) pl.isList (fun w hw=>mem_eqAt rx fx r fs w (by simpa using hw)) ⟨.bl _,H,I,rfl,?_⟩
  rw [show its.toArray.any (eqU x)=its.any (eqU x) by simp,any_eqU r fs]
  exact q
 ·obtain ⟨its,r,pl,hz⟩:=I.tuple hq
  refine SeqAt.notIn_tupleAt (eqU x) pl (fun w hw=>mem_eqAt rx fx r fs w (by simpa using hw)) ⟨.bl _,H,I,rfl,?_⟩
  rw [show its.toArray.any (eqU x)=its.any (eqU x) by simp,any_eqU r fs]
  exact q
theorem call_list_of:CallR X (.type "list") (fun xs H Q=>∃ p ys,xs=[.ref p]/\(SqL X.K H p ys \/ SqT X.K H p ys)/\∀ l,H l=none->Q (.ref l) (upd H l (.lst ys))):=by
 intro pins s σ H xs us Q I r h
 obtain ⟨p,ys,rfl,hq,q⟩:=h
 obtain ⟨u,rfl,rx⟩:=vals1 r
 cases rx
 have fin:∀ (its:List Value),Vals ys its->ys.length <= sizeLine->∀ (h':Heap) (c':Nat),(∀ b o',s.heap.get? b=some o'->h'.get? b=some o') ->
   h'.get? s.heap.objs.size=some { cls:=.type "list",dict:=none,data:=.seq its.toArray c',slots:=#[] }->EP X pins σ Q (.ref s.heap.objs.size) { s with heap:=h' }:=fun its r' hz h' c' kp e=>
  ⟨.ref s.heap.objs.size,_,I.laid (t':=s.toks) kp (Nat.le_refl _) (show ObjOk X.prog X.w _ h' _ (.lst ys) from ⟨hz,its,c',r',e⟩),rfl,q _ (I.hok.fresh (Nat.le_refl _))⟩
 rcases hq with hq | hq
 ·obtain ⟨its,r',pl,hz⟩:=I.list hq
  have hlen:=r'.length
  obtain ⟨o,ho,hc,n,hd⟩:=pl.isList
  exact call_list_seq p (.inl rfl) ho hc hd (fun h' c' kp e=>fin its r' hz h' c' kp e) (by simp only [List.size_toArray] <;> omega)
 ·obtain ⟨its,r',pl,hz⟩:=I.tuple hq
  have hlen:=r'.length
  obtain ⟨o,ho,hc,n,hd⟩:=pl
  exact call_list_seq p (.inr rfl) ho hc hd (fun h' c' kp e=>fin its r' hz h' c' kp e) (by simp only [List.size_toArray] <;> omega)
theorem call_tuple_of:CallR X (.type "tuple") (fun xs H Q=>∃ p ys,xs=[.ref p]/\((SqL X.K H p ys/\∀ l,H l=none->Q (.ref l) (upd H l (.tup ys))) \/ (SqT X.K H p ys/\Q (.ref p) H))):=by
 intro pins s σ H xs us Q I r h
 obtain ⟨p,ys,rfl,h⟩:=h
 obtain ⟨u,rfl,rx⟩:=vals1 r
 cases rx
 rcases h with ⟨hq,q⟩ | ⟨hq,q⟩
 ·obtain ⟨its,r',pl,hz⟩:=I.list hq
  have hlen:=r'.length
  refine call_tuple_list pl.isList (fun h' kp=>?_) (by simp only [List.size_toArray] <;> omega)
  have I1:Inv X pins σ H { s with heap:=h' }:=I.kept (t':=s.toks) kp
  have I2:Inv X pins σ (upd H h'.objs.size (.tup ys)) { s with heap:=h'.push { cls:=.type "tuple",data:=.seq its.toArray } }:=
   I1.laid (t':=s.toks) (fun b o e=>Heap.get?_push_of_some _ e) (Nat.le_refl _) (show ObjOk X.prog X.w _ _ _ (.tup ys) from ⟨hz,its,r',IsTup.new _ _⟩)
  exact ⟨.ref h'.objs.size,_,I2,rfl,q _ (I1.hok.fresh (Nat.le_refl _))⟩
 ·obtain ⟨its,r',pl,hz⟩:=I.tuple hq
  exact call_tuple_same pl ⟨.ref p,H,I,rfl,q⟩
def tyV (K:PySem.W.Frag) (T:String) (x:V) (H:Hp):Prop:=match x with
 | .str _=>T="str"
 | .int _=>T="int"
 | .ref p=>(T="list"/\∃ xs,SqL K H p xs) \/ (T="tuple"/\∃ o,K.lookup p=some o/\o.cls=.type "tuple"/\o.dict=none) \/
   (T="dict"/\((∃ kvs,H p=some (.dK kvs)) \/ ∃ kvs,H p=some (.dT kvs))) \/ (T="set"/\∃ S n,H p=some (.set S n))
 | _=>False
theorem tyV_is {pins:List (Addr × Obj)} {σ:St} {H:Hp} {s:Shared} {T:String} {x:V} {v:Value} (I:Inv X pins σ H s) (r:RelV x v) (ty:tyV X.K T x H) :
  s.TypeIs v T/\∀ a,v=.ref a->∃ ob,s.heap.get? a=some ob/\ob.dict=none:=by
 cases x with
 | str z=>
  obtain ⟨t,rfl⟩:=r
  cases (show T="str" from ty)
  exact ⟨typeIs_str s z t,fun _ e=>nomatch e⟩
 | int i=>
  obtain ⟨t,rfl⟩:=r
  cases (show T="int" from ty)
  exact ⟨typeIs_int s i t,fun _ e=>nomatch e⟩
 | ref p=>
  cases r
  rcases ty with ⟨rfl,xs,hq⟩ | ⟨rfl,o,hk,hc,hd⟩ | ⟨rfl,hk⟩ | ⟨rfl,S,n,hk⟩
  ·obtain ⟨its,_,pl,_⟩:=I.list hq
   refine ⟨pl.isList.typeIs,fun a e=>?_⟩
   cases e
   obtain ⟨o,n,e,c,hd,_⟩:=pl
   exact ⟨o,e,hd⟩
  ·refine ⟨⟨o,I.kIn p o hk,hc⟩,fun a e=>?_⟩
   cases e
   exact ⟨o,I.kIn _ o hk,hd⟩
  ·have z:∃ o,s.heap.get? p=some o/\o.ExactDict:=by
    rcases hk with ⟨kvs,hk⟩ | ⟨kvs,hk⟩
    ·obtain ⟨_,_,_,_,o,_,_,e,ex,_⟩:=I.hok p _ hk
     exact ⟨o,e,ex⟩
    ·obtain ⟨_,_,_,_,o,_,_,e,ex,_⟩:=I.hok p _ hk
     exact ⟨o,e,ex⟩
   obtain ⟨o,e,ex⟩:=z
   refine ⟨⟨o,e,ex.1⟩,fun a e2=>?_⟩
   cases e2
   exact ⟨o,e,ex.2.1⟩
  ·obtain ⟨o,_,_,_,e,ex,_⟩:=I.hok p _ hk
   refine ⟨⟨o,e,ex.1⟩,fun a e2=>?_⟩
   cases e2
   exact ⟨o,e,ex.2.1⟩
 | _=>exact False.elim ty
def tBM0 (K:PySem.W.Frag) (T:String) (r:V->List V->Hp->VK->Prop) (to:TE):TE:=fun σ H Q=>to σ H fun x H1=>tyV K T x H1/\r x [] H1 Q
def tBM (K:PySem.W.Frag) (T:String) (r:V->List V->Hp->VK->Prop) (to:TE) (t:TA):TE:=fun σ H Q=>to σ H fun x H1=>tyV K T x H1/\t σ H1 fun xs H2=>r x xs H2 Q
variable {o e:Expr} {es:List Expr} {to:TE} {t:TA} {name:Str} {apos cpos:Pos} {T id:String} {r:V->List V->Hp->VK->Prop}
theorem pe_bm0 (pa:PlainAttrs T) (slot:Slot T name id) (hty:typeOf (.builtin id)=pure (.type "method_descriptor")) (hm:MtR X id r) (ho:PE X o to)
  (hbase:attributeBase o name X.env (eval o X.env)=eval o X.env:=by rfl) (hline:(apos.endLine == cpos.line)=true:=by rfl):PE X (.Call (.Attribute o name apos) [] [] cpos) (tBM0 X.K T r to):=by
 intro pins s σ H Q I h
 refine wpAny_Call_method0_late hbase hline (thn (ho pins s σ H _ I h) fun v s1 hz39=>?_)
 obtain ⟨x,H1,I1,r1,ty,q1⟩:=hz39
 obtain ⟨h1,h2⟩:=tyV_is I1 r1 ty
 exact ⟨T,id,pa,slot,hty,h1,h2,Calls.callWith_builtin rfl (PySem.evalArgs_none (hm pins s1 σ H1 x [] v [] Q I1 r1 .nil q1))⟩
theorem pe_bm (pa:PlainAttrs T) (slot:Slot T name id) (hty:typeOf (.builtin id)=pure (.type "method_descriptor")) (hm:MtR X id r) (ho:PE X o to) (ha:PA X (e :: es) t)
  (hbase:attributeBase o name X.env (eval o X.env)=eval o X.env:=by rfl)
  (hfew:((backTo cpos (starEach (e :: es) X.env)).all (fun x=>!x.1) && (backToKw cpos (keywordEach [] X.env)).all (fun x=>x.1.isSome)
   && decide ((e :: es).length + ([]:List Keyword).length + (if ([]:List Keyword).isEmpty then 0 else 1) < 30))=true:=by rfl)
  (hline:(apos.endLine == cpos.line)=true:=by rfl) (hs:starEach (e :: es) X.env=(false,eval e X.env) :: starEach es X.env:=by rfl) (hplain:(backTo cpos (starEach es X.env)).any (·.1)=false:=by rfl) :
  PE X (.Call (.Attribute o name apos) (e :: es) [] cpos) (tBM X.K T r to t):=by
 intro pins s σ H Q I h
 refine wpAny_Call_method_late hbase hfew hline rfl (thn (ho pins s σ H _ I h) fun v s1 hz40=>?_)
 obtain ⟨x,H1,I1,r1,ty,q1⟩:=hz40
 obtain ⟨h1,h2⟩:=tyV_is I1 r1 ty
 refine ⟨T,id,pa,slot,hty,h1,h2,?_⟩
 have hA:=ha cpos pins s1 σ H1 _ I1 q1
 rw [hs] at hA ⊢
 refine Calls.callWith_builtin (by show (false || (backTo cpos (starEach es X.env)).any (·.1))=false;rw [hplain] <;> rfl) (Calls.evalArgs_plain ?_)
 exact thn hA fun us s2 ⟨vs,H2,I2,r2,q2⟩=>hm pins s2 σ H2 x vs v us Q I2 r1 r2 q2
end
end L2
namespace L2
open PySem PySem.Spec PyProof.Rows
def MtM (X:Cx) (id:String) (r:V->List V->Hp->VK->Prop):Prop:=
 ∀ (pins:List (Addr × Obj)) (s:Shared) (σ:St) (H:Hp) (x:V) (xs:List V) (v:Value) (us:List Value) (Q:VK),Inv X pins σ H s->RelV x v->Vals xs us->r x xs H Q ->
  wpAny (model X.prog X.w) X.A (call (.builtin id) (v :: us)) (EP X pins σ Q) X.xe s
theorem Vals.one {x:V} {us:List Value} (h:Vals [x] us):∃ u,us=[u]/\RelV x u:=by
 cases h with
 | cons r k=>cases k;exact ⟨_,rfl,r⟩
theorem Vals.two {x y:V} {us:List Value} (h:Vals [x,y] us):∃ u v,us=[u,v]/\RelV x u/\RelV y v:=by
 cases h with
 | cons r k=>cases k with
  | cons q m=>cases m;exact ⟨_,_,rfl,r,q⟩
theorem Vals.zero:∀ {us:List Value},Vals [] us->us=[]
 | _,.nil=>rfl
theorem Vals.dropLast {xs:List V} {us:List Value} (h:Vals xs us):Vals xs.dropLast us.dropLast:=by
 induction h with
 | nil=>exact .nil
 | cons r t ih=>
  cases t with
  | nil=>exact .nil
  | cons q t'=>exact .cons r ih
theorem Vals.eraseIdx:∀ {xs:List V} {us:List Value} (i:Nat),Vals xs us->Vals (xs.eraseIdx i) (us.eraseIdx i)
 | _,_,_,.nil=>.nil
 | _,_,0,.cons _ t=>t
 | _,_,i + 1,.cons r t=>.cons r (Vals.eraseIdx i t)
theorem erase_last {α:Type} (l:List α):l.eraseIdx (l.length - 1)=l.dropLast:=by
 induction l with
 | nil=>rfl
 | cons a r ih=>
  cases r with
  | nil=>rfl
  | cons b r=>
   have e:(a :: b :: r).length - 1=((b :: r).length - 1) + 1:=by
    have h1:(a :: b :: r).length=r.length + 2:=rfl
    have h2:(b :: r).length=r.length + 1:=rfl
    omega
   rw [e,List.eraseIdx_cons_succ,ih]
   all_goals rfl
theorem len_erase {α:Type}:∀ (l:List α) (i:Nat),(l.eraseIdx i).length <= l.length
 | [],_=>Nat.le_refl _
 | _ :: _,0=>Nat.le_succ _
 | _ :: r,i + 1=>Nat.succ_le_succ (len_erase r i)
section
variable {X:Cx} {pins:List (Addr × Obj)} {σ:St} {H:Hp} {s:Shared} {l b:Addr} {xs ys zs:List V}
theorem Inv.lset {its its':List Value} {n:Nat} {f:Array Value->Array Value} {t':Nat} (I:Inv X pins σ H s) (hH:H l=some (.lst xs))
  (e:s.heap.get? l=some { cls:=.type "list",data:=.seq its.toArray n }) (hf:f its.toArray=its'.toArray) (hv:Vals ys its') (hz:ys.length <= sizeLine) :
  Inv X pins σ (upd H l (.lst ys)) { s with heap:=s.heap.update l (Obj.mapSeq f),toks:=t' }:=by
 have q:=PySem.IsL.update e f
 rw [hf] at q
 refine I.write (x:=l) (e:=l) (by rw [hH];exact trivial) (.inl rfl) (fun b' u hb hu=>(Heap.get?_update_other s.heap (Obj.mapSeq f) (Ne.symm hb)).trans hu) ⟨_,q⟩ ?_
 exact ⟨hz,its',_,hv,q⟩
theorem Inv.lnew {its:List Value} {t':Nat} (I:Inv X pins σ H s) (hv:Vals ys its) (hz:ys.length <= sizeLine) :
  Inv X pins σ (upd H s.heap.objs.size (.lst ys)) { s with heap:=s.heap.push { cls:=.type "list",data:=.seq its.toArray },toks:=t' }:=
 I.laid (fun _ _ q=>Heap.get?_push_of_some _ q) (Nat.le_refl _) ⟨hz,its,0,hv,Heap.get?_push_size _ rfl⟩
theorem Inv.fresh (I:Inv X pins σ H s):H s.heap.objs.size=none:=I.hok.fresh (Nat.le_refl _)
theorem Inv.lstM (I:Inv X pins σ H s) (hH:H l=some (.lst xs)):xs.length <= sizeLine/\∃ (its:List Value) (n:Nat),Vals xs its/\xs.length=its.length/\s.heap.get? l=some { cls:=.type "list",data:=.seq its.toArray n }:=by
 obtain ⟨z,its,n,r,e⟩:=I.hok l _ hH
 exact ⟨z,its,n,r,r.length,e⟩
end
section
variable {X:Cx}
def rAppend:V->List V->Hp->VK->Prop:=fun x vs H Q=>∃ l xs y,x=.ref l/\vs=[y]/\H l=some (.lst xs)/\xs.length < sizeLine/\Q .non (upd H l (.lst (xs ++ [y])))
theorem mt_append:MtM X "list.append" rAppend:=by
 intro pins s σ H x vs v us Q I rx rv h
 obtain ⟨l,xs,y,rfl,rfl,hH,hz,q⟩:=h
 cases rx
 obtain ⟨u,rfl,ru⟩:=rv.one
 obtain ⟨z,its,n,r,hl,e⟩:=I.lstM hH
 refine call_meets F.slot_list_append ⟨_,e,rfl⟩ F.entry_list_append (F.args_list_append_2 _ _) (PySem.list_append l its.toArray n u (by rw [List.size_toArray];omega)) ⟨e,?_⟩
 refine ⟨.non,_,I.lset (its':=its ++ [u]) hH e (by simp) (r.append (.cons ru .nil)) ?_,rfl,q⟩
 rw [List.length_append,List.length_singleton]
 omega
def rPop:V->List V->Hp->VK->Prop:=fun x vs H Q=>∃ l xs y,x=.ref l/\vs=[]/\H l=some (.lst xs)/\xs[xs.length - 1]?=some y/\Q y (upd H l (.lst xs.dropLast))
theorem mt_pop:MtM X "list.pop" rPop:=by
 intro pins s σ H x vs v us Q I rx rv h
 obtain ⟨l,xs,y,rfl,rfl,hH,hy,q⟩:=h
 cases rx
 have hus:=rv.zero
 subst hus
 obtain ⟨z,its,n,r,hl,e⟩:=I.lstM hH
 obtain ⟨u,hu,ru⟩:=r.get hy
 have hy':its.toArray[its.toArray.size - 1]?=some u:=by
  show its.toArray[its.length - 1]?=some u
  rw [<- Array.getElem?_toList,<- hl]
  exact hu
 refine call_meets F.slot_list_pop ⟨_,e,rfl⟩ F.entry_list_pop (F.args_list_pop_1 _) (MeetsSeq.list_pop_last l its.toArray n u hy' (by rw [List.size_toArray];omega)) ⟨e,?_⟩
 refine ⟨y,_,I.lset (its':=its.dropLast) hH e ?_ r.dropLast ?_,ru,q⟩
 ·show its.toArray.eraseIdxIfInBounds (its.toArray.size - 1)=its.dropLast.toArray
  rw [List.size_toArray,List.eraseIdxIfInBounds_toArray,erase_last]
 ·rw [List.length_dropLast]
  omega
def rPopAt:V->List V->Hp->VK->Prop:=fun x vs H Q=>∃ l xs i k y,x=.ref l/\vs=[.int i]/\H l=some (.lst xs)/\-(2 ^ 63) <= i/\i < 2 ^ 63/\seqIndex? i xs.length=some k/\xs[k]?=some y/\Q y (upd H l (.lst (xs.eraseIdx k)))
theorem mt_popAt:MtM X "list.pop" rPopAt:=by
 intro pins s σ H x vs v us Q I rx rv h
 obtain ⟨l,xs,i,k,y,rfl,rfl,hH,h1,h2,hk,hy,q⟩:=h
 cases rx
 obtain ⟨u,rfl,ru⟩:=rv.one
 obtain ⟨t,rfl⟩:=ru
 obtain ⟨z,its,n,r,hl,e⟩:=I.lstM hH
 obtain ⟨w,hw,rw'⟩:=r.get hy
 refine call_meets F.slot_list_pop ⟨_,e,rfl⟩ F.entry_list_pop (F.args_list_pop_2 _ _)
  (MeetsSeq.list_pop_at l its.toArray n i t k w (fitsIndex_both h1 h2) (by rw [List.size_toArray,<- hl];exact hk) (by rw [<- Array.getElem?_toList];exact hw) (by rw [List.size_toArray];omega)) ⟨e,?_⟩
 refine ⟨y,_,I.lset (its':=its.eraseIdx k) hH e ?_ (r.eraseIdx k) ?_,rw',q⟩
 ·show its.toArray.eraseIdxIfInBounds k=(its.eraseIdx k).toArray
  rw [List.eraseIdxIfInBounds_toArray]
 ·have:=len_erase xs k
  omega
def rCat:R2:=fun x y H Q=>∃ l b xs zs,x=.ref l/\y=.ref b/\H l=some (.lst xs)/\H b=some (.lst zs)/\xs.length + zs.length <= sizeLine/\∀ p,H p=none->Q (.ref p) (upd H p (.lst (xs ++ zs)))
theorem op_cat:OpR X (binaryOp .Add) rCat:=by
 intro pins s σ H x y v u Q I rx ry h
 obtain ⟨l,b,xs,zs,rfl,rfl,hH,hB,hz,q⟩:=h
 cases rx
 cases ry
 obtain ⟨z,its,n,r,hl,e⟩:=I.lstM hH
 obtain ⟨z2,its2,n2,r2,hl2,e2⟩:=I.lstM hB
 refine PySem.P.add_list e e2 ?_ (by rw [List.size_toArray,List.size_toArray];omega)
 have ea:its.toArray ++ its2.toArray=(its ++ its2).toArray:=by simp
 rw [ea]
 exact ⟨.ref _,_,I.lnew (t':=s.toks) (r.append r2) (by rw [List.length_append];omega),rfl,q _ I.fresh⟩
end
section
variable {prog:Program} {w:World} {A:Around} {E:Value->Shared->Prop} {s:Shared}
end
section
variable {X:Cx}
end
end L2
namespace L2
open PySem PySem.Spec PyProof.Rows
section
variable {κ:Type} [DecidableEq κ]
def valV (kvs:List (κ × V)) (k:κ):Option V:=(kvs.find? fun kv=>decide (kv.1=k)).map (·.2)
def putK (kvs:List (κ × V)) (k:κ) (v:V):List (κ × V):=
 if (kvs.any fun kv=>decide (kv.1=k))=true then kvs.map (fun kv=>if kv.1=k then (kv.1,v) else kv) else kvs ++ [(k,v)]
theorem valV_pos {p:κ × V} {r:List (κ × V)} {k:κ} (e:p.1=k):valV (p :: r) k=some p.2:=by simp [valV,List.find?_cons,e]
theorem valV_neg {p:κ × V} {r:List (κ × V)} {k:κ} (e:¬ p.1=k):valV (p :: r) k=valV r k:=by simp [valV,List.find?_cons,e]
theorem valV_any (k:κ):∀ kvs:List (κ × V),(kvs.any fun kv=>decide (kv.1=k))=(valV kvs k).isSome
 | []=>rfl
 | p :: r=>by
  rw [List.any_cons]
  by_cases e:p.1=k
  ·simp only [valV_pos e,decide_eq_true e,Bool.true_or,Option.isSome_some]
  ·rw [valV_neg e,decide_eq_false e,Bool.false_or];exact valV_any k r
theorem length_putK (kvs:List (κ × V)) (k:κ) (v:V):(putK kvs k v).length <= kvs.length + 1:=by
 unfold putK
 split
 ·rw [List.length_map];omega
 ·rw [List.length_append,List.length_cons,List.length_nil];omega
theorem RelO.isSome_eq {o:Option V} {u:Option Value} (r:RelO o u):o.isSome=u.isSome:=by
 cases o with
 | none=>cases u with
  | none=>rfl
  | some _=>exact (show False from r).elim
 | some _=>cases u with
  | none=>exact (show False from r).elim
  | some _=>rfl
theorem KV.val {kvs:List (κ × V)} {vs:List (κ × Value)} (r:KV kvs vs) (k:κ):RelO (valV kvs k) (valueAt vs k):=by
 unfold KV at r
 induction r with
 | nil=>exact True.intro
 | @cons p q ps qs h t ih=>
  obtain ⟨h1,h2⟩:=h
  by_cases e:p.1=k
  ·have e':q.1=k:=h1.symm.trans e
   have b:valueAt (q :: qs) k=some q.2:=by simp [valueAt,List.find?_cons,e']
   rw [valV_pos e,b];exact h2
  ·have e':¬ q.1=k:=fun z=>e (h1.trans z)
   have b:valueAt (q :: qs) k=valueAt qs k:=by simp [valueAt,List.find?_cons,e']
   rw [valV_neg e,b];exact ih
theorem KV.any {kvs:List (κ × V)} {vs:List (κ × Value)} (r:KV kvs vs) (k:κ):(kvs.any fun kv=>decide (kv.1=k))=vs.any fun kv=>decide (kv.1=k):=by
 unfold KV at r
 induction r with
 | nil=>rfl
 | cons h t ih=>rw [List.any_cons,List.any_cons,ih,h.1]
theorem KV.repl {kvs:List (κ × V)} {vs:List (κ × Value)} (r:KV kvs vs) (k:κ) {y:V} {u:Value} (ry:RelV y u) :
  KV (kvs.map fun kv=>if kv.1=k then (kv.1,y) else kv) (vs.map fun kv=>if kv.1=k then (kv.1,u) else kv):=by
 unfold KV at r ⊢
 induction r with
 | nil=>exact .nil
 | @cons p q ps qs h t ih=>
  rw [List.map_cons,List.map_cons]
  refine .cons ?_ ih
  obtain ⟨h1,h2⟩:=h
  by_cases e:p.1=k
  ·rw [if_pos e,if_pos (h1.symm.trans e)];exact ⟨h1,ry⟩
  ·rw [if_neg e,if_neg (fun z=>e (h1.trans z))];exact ⟨h1,h2⟩
theorem KV.put {kvs:List (κ × V)} {vs:List (κ × Value)} (r:KV kvs vs) (k:κ) {y:V} {u:Value} (ry:RelV y u):KV (putK kvs k y) (stored vs k u):=by
 unfold putK stored
 rw [r.any k]
 by_cases e:(vs.any fun kv=>decide (kv.1=k))=true
 ·rw [if_pos e,if_pos e];exact r.repl k ry
 ·rw [if_neg e,if_neg e];exact Paired.snoc r ⟨rfl,ry⟩
theorem KV.length {kvs:List (κ × V)} {vs:List (κ × Value)} (r:KV kvs vs):kvs.length=vs.length:=Paired.length r
end
theorem kV_is {P:Program} {w:World} {k:Key} {u:Value} (r:RelV (kV k) u):(mixKind P w).is k u=true:=by
 cases k with
 | inl i=>obtain ⟨t,e⟩:=(show ∃ t,u=Value.int i t from r);subst e;exact mixKind_int P w i t
 | inr x=>obtain ⟨t,e⟩:=(show ∃ t,u=Value.str x t from r);subst e;exact mixKind_str P w x t
theorem items_are {P:Program} {w:World}:∀ {ks:List Key} {us:List Value},Vals (ks.map kV) us->ItemsAre (mixKind P w) ks us
 | [],_,r=>by rw [List.map_nil] at r;cases r;exact .nil
 | k :: ks,_,r=>by
  rw [List.map_cons] at r
  cases r with
  | cons h t=>exact .cons (kV_is h) (items_are t)
abbrev KT (H:Hp):List (List Key × V)->List (List Key × Addr × Value)->Prop:=Paired fun p q=>p.1=q.1/\H q.2.1=some (.tup (p.1.map kV))/\RelV p.2 q.2.2
theorem KT.val {H:Hp} {kvs:List (List Key × V)} {xs:List (List Key × Addr × Value)} (r:KT H kvs xs) (k:List Key):RelO (valV kvs k) ((atKey xs k).map (·.2)):=by
 induction r with
 | nil=>exact True.intro
 | @cons p q ps qs h t ih=>
  obtain ⟨h1,_,h2⟩:=h
  by_cases e:p.1=k
  ·have e':q.1=k:=h1.symm.trans e
   have b:atKey (q :: qs) k=some q.2:=by simp [atKey,List.find?_cons,e']
   rw [valV_pos e,b];exact h2
  ·have e':¬ q.1=k:=fun z=>e (h1.trans z)
   have b:atKey (q :: qs) k=atKey qs k:=by simp [atKey,List.find?_cons,e']
   rw [valV_neg e,b];exact ih
theorem KT.repl {H:Hp} {kvs:List (List Key × V)} {xs:List (List Key × Addr × Value)} (r:KT H kvs xs) (k:List Key) {y:V} {u:Value} (ry:RelV y u) :
  KT H (kvs.map fun kv=>if kv.1=k then (kv.1,y) else kv) (xs.map (putAt k u)):=by
 induction r with
 | nil=>exact .nil
 | @cons p q ps qs h t ih=>
  rw [List.map_cons,List.map_cons]
  refine .cons ?_ ih
  obtain ⟨h1,h2,h3⟩:=h
  unfold putAt
  by_cases e:p.1=k
  ·rw [if_pos e,if_pos (h1.symm.trans e)];exact ⟨h1,h2,ry⟩
  ·rw [if_neg e,if_neg (fun z=>e (h1.trans z))];exact ⟨h1,h2,h3⟩
theorem KT.put {H:Hp} {kvs:List (List Key × V)} {xs:List (List Key × Addr × Value)} (r:KT H kvs xs) (k:List Key) {b:Addr} {y:V} {u:Value} (hb:H b=some (.tup (k.map kV))) (ry:RelV y u) :
  KT H (putK kvs k y) (storedH xs k b u):=by
 have e:(kvs.any fun kv=>decide (kv.1=k))=(atKey xs k).isSome:=by
  rw [valV_any,(r.val k).isSome_eq,Option.isSome_map]
 unfold putK storedH
 rw [e]
 by_cases q:(atKey xs k).isSome=true
 ·rw [if_pos q,if_pos q];exact r.repl k ry
 ·rw [if_neg q,if_neg q];exact Paired.snoc r ⟨rfl,hb,ry⟩
theorem KT.keeps {H H':Hp} {kvs:List (List Key × V)} {xs:List (List Key × Addr × Value)} (r:KT H kvs xs) (ht:∀ b ys,H b=some (.tup ys)->H' b=some (.tup ys)):KT H' kvs xs:=
 Paired.mapP r fun _ _ z=>⟨z.1,ht _ _ z.2.1,z.2.2⟩
section
variable {P:Program} {w:World} {H:Hp} {h:Heap} {a:Addr}
theorem rd_of {u:HO} (ok:HOk P w H h) (e:Rd H a u):ObjOk P w H h a u:=e.ok ok
theorem dk_rd {kvs:List (Key × V)} (ok:HOk P w H h) (e:Rd H a (.dK kvs)):kvs.length <= sizeLine/\(a == sysModules)=false/\∃ vs,KV kvs vs/\h.DictOf (mixKind P w) a vs:=
 show ObjOk P w H h a (.dK kvs) from rd_of ok e
theorem dk_of {kvs:List (Key × V)} (ok:HOk P w H h) (e:H a=some (.dK kvs)):kvs.length <= sizeLine/\(a == sysModules)=false/\∃ vs,KV kvs vs/\h.DictOf (mixKind P w) a vs:=dk_rd ok (.inl e)
theorem key_of {ks:List Key} (ok:HOk P w H h) (e:H a=some (.tup (ks.map kV))):(tupleKind (mixKind P w)).is h ks a:=by
 obtain ⟨_,its,r,o,h1,h2,n,h3⟩:=(show ObjOk P w H h a (.tup (ks.map kV)) from ok a _ e)
 exact ⟨o,its.toArray,n,h1,h2,h3,by simpa using items_are r⟩
theorem dt_rd {kvs:List (List Key × V)} (ok:HOk P w H h) (e:Rd H a (.dT kvs)):kvs.length <= sizeLine/\(a == sysModules)=false /\
  ∃ xs,KT H kvs xs/\h.DictOfH (tupleKind (mixKind P w)) a xs:=by
 obtain ⟨z,y,xs,r,o,es,ep,h1,h2,h3,h4,h5⟩:=(show ObjOk P w H h a (.dT kvs) from rd_of ok e)
 refine ⟨z,y,xs,r,o,es,ep,h1,h2,h3,h4,fun x hx=>?_,h5⟩
 have all:∀ {l:List (List Key × V)} {m:List (List Key × Addr × Value)},KT H l m->∀ x ∈ m,(tupleKind (mixKind P w)).is h x.1 x.2.1:=by
  intro l m q
  induction q with
  | nil=>intro x hx;exact nomatch hx
  | @cons p q ps qs hq t ih=>
   intro x hx
   rcases List.mem_cons.mp hx with e | hx
   ·subst e
    exact key_of ok (by rw [<- hq.1];exact hq.2.1)
   ·exact ih x hx
 exact all r x hx
theorem dt_of {kvs:List (List Key × V)} (ok:HOk P w H h) (e:H a=some (.dT kvs)):kvs.length <= sizeLine/\(a == sysModules)=false /\
  ∃ xs,KT H kvs xs/\h.DictOfH (tupleKind (mixKind P w)) a xs:=dt_rd ok (.inl e)
end
def DGet (H:Hp) (a:Addr) (y:V) (r:Option V):Prop:=
 (∃ kvs k,Rd H a (.dK kvs)/\y=kV k/\r=valV kvs k) \/ ∃ kvs k b,Rd H a (.dT kvs)/\y=.ref b/\H b=some (.tup (k.map kV))/\r=valV kvs k
def DPut (H:Hp) (a:Addr) (y v:V) (H':Hp):Prop:=
 (∃ kvs k,H a=some (.dK kvs)/\y=kV k/\kvs.length < sizeLine/\H'=upd H a (.dK (putK kvs k v))) \/
 ∃ kvs k b,H a=some (.dT kvs)/\y=.ref b/\H b=some (.tup (k.map kV))/\kvs.length < sizeLine/\H'=upd H a (.dT (putK kvs k v))
theorem DGet.k {H:Hp} {a:Addr} {kvs:List (Key × V)} {k:Key} (e:H a=some (.dK kvs)):DGet H a (kV k) (valV kvs k):=.inl ⟨kvs,k,.inl e,rfl,rfl⟩
theorem DPut.k {H:Hp} {a:Addr} {kvs:List (Key × V)} {k:Key} {v:V} (e:H a=some (.dK kvs)) (hl:kvs.length < sizeLine):DPut H a (kV k) v (upd H a (.dK (putK kvs k v))):=.inl ⟨kvs,k,e,rfl,hl,rfl⟩
section
variable {X:Cx} {pins:List (Addr × Obj)} {σ:St} {H:Hp} {s:Shared} {a:Addr} {y v:V} {u r:Value} {o:Option V} {A:Around} {E:Value->Shared->Prop}
theorem Inv.big (I:Inv X pins σ H s):sysModules < s.heap.objs.size:=by
 have h:mainGlobals < s.heap.objs.size:=(I.mod.glob.keeps I.bk).lt
 exact Nat.lt_trans (by decide) h
theorem d_getItem {Q:Value->Shared->Prop} (hu:A.units + 1 < cLine) (I:Inv X pins σ H s) (g:DGet H a y (some v)) (ry:RelV y u) (h:∀ w' s',Inv X pins σ H s'->RelV v w'->Q w' s') :
  wpAny (model X.prog X.w) A (getItem (.ref a) u) Q E s:=by
 rcases g with ⟨kvs,k,e,ey,l⟩ | ⟨kvs,k,b,e,ey,eb,l⟩
 ·subst ey
  obtain ⟨z,hd,vs,rel,dd⟩:=dk_rd I.hok e
  obtain ⟨w',hw,rw'⟩:=RelO.some_of (v:=v) (o:=valueAt vs k) (by rw [l];exact rel.val k)
  exact wpAny_getItem_of (kV_is ry) dd.mapOf hw (h w' _ (I.tok _) rw')
 ·subst ey
  cases (show u=Value.ref b from ry)
  obtain ⟨z,hd,xs,rel,dd⟩:=dt_rd I.hok e
  obtain ⟨w',hw,rw'⟩:=RelO.some_of (v:=v) (o:=(atKey xs k).map (·.2)) (by rw [l];exact rel.val k)
  obtain ⟨p,hp,hp2⟩:=Option.map_eq_some_iff.mp hw
  refine wpAny_getItem_heap (tupleKind_room_in1 hu) (key_of I.hok eb) dd hp ?_
  rw [hp2]
  exact h w' _ (I.tok _) rw'
theorem d_notIn {Q:Value->Shared->Prop} (hu:A.units + 1 < cLine) (I:Inv X pins σ H s) (g:DGet H a y o) (ry:RelV y u) (h:∀ s',Inv X pins σ H s'->Q (.bool (!o.isSome)) s') :
  wpAny (model X.prog X.w) A (compareOp .NotIn u (.ref a)) Q E s:=by
 rcases g with ⟨kvs,k,e,ey,l⟩ | ⟨kvs,k,b,e,ey,eb,l⟩
 ·subst ey
  obtain ⟨z,hd,vs,rel,dd⟩:=dk_rd I.hok e
  refine wpAny_notIn_of (kV_is ry) hd dd.mapOf ?_
  rw [<- (rel.val k).isSome_eq,<- l]
  exact h _ (I.tok _)
 ·subst ey
  cases (show u=Value.ref b from ry)
  obtain ⟨z,hd,xs,rel,dd⟩:=dt_rd I.hok e
  refine wpAny_notIn_heap (tupleKind_room_in1 hu) (key_of I.hok eb) hd dd ?_
  have q:=(rel.val k).isSome_eq
  rw [Option.isSome_map] at q
  rw [<- q,<- l]
  exact h _ (I.tok _)
theorem d_write {h':Heap} {t':Nat} {ob:HO} (I:Inv X pins σ H s) (mu:Mut (H a)) (hs:Heap.SameBut a s.heap h') (he:∃ q,h'.get? a=some q) (new:ObjOk X.prog X.w (upd H a ob) h' a ob) :
  Inv X pins σ (upd H a ob) { s with heap:=h',toks:=t' }:=
 I.write (x:=a) (e:=a) mu (.inl rfl) (fun b q hb z=>(hs.2 b hb).trans z) he new
theorem dk_new {P:Program} {w:World} {H':Hp} {h':Heap} {kvs:List (Key × V)} {vs:List (Key × Value)} (z:kvs.length <= sizeLine) (hd:(a == sysModules)=false) (rel:KV kvs vs) (dd:h'.DictOf (mixKind P w) a vs) :
  ObjOk P w H' h' a (.dK kvs):=⟨z,hd,vs,rel,dd⟩
theorem d_setItem {H':Hp} {Q:Unit->Shared->Prop} (hu:A.units + 1 < cLine) (I:Inv X pins σ H s) (g:DPut H a y v H') (ry:RelV y u) (rv:RelV v r) (h:∀ s',Inv X pins σ H' s'->Q () s') :
  wpAny (model X.prog X.w) A (setItem (.ref a) u r) Q E s:=by
 rcases g with ⟨kvs,k,e,ey,l,eH⟩ | ⟨kvs,k,b,e,ey,eb,l,eH⟩
 ·subst ey eH
  obtain ⟨z,hd,vs,rel,dd⟩:=dk_of I.hok e
  have hz:vs.length <= sizeLine:=by rw [<- rel.length];exact z
  have hl:(putK kvs k v).length <= sizeLine:=by have:=length_putK kvs k v;omega
  refine wpAny_setItem_pairs (hsz:=hz) (kV_is ry) dd fun h' dd' hs=>h _ ?_
  have he:∃ q,h'.get? a=some q:=let ⟨q,_,_,hq,_⟩:=dd';⟨q,hq⟩
  exact d_write I (by rw [e];exact True.intro) hs he (dk_new hl hd (rel.put k rv) dd')
 ·subst ey eH
  cases (show u=Value.ref b from ry)
  obtain ⟨z,hd,xs,rel,dd⟩:=dt_of I.hok e
  have hz:xs.length <= sizeLine:=by rw [<- Paired.length rel];exact z
  have hl:(putK kvs k v).length <= sizeLine:=by have:=length_putK kvs k v;omega
  refine wpAny_setItem_heap (hsz:=hz) (tupleKind_room_in1 hu) (key_of I.hok eb) dd fun h' dd' hs=>h _ ?_
  obtain ⟨q,es,ep,hq,h2,h3,h4,_,h5⟩:=dd'
  refine d_write I (by rw [e];exact True.intro) hs ⟨q,hq⟩ ⟨hl,hd,_,(rel.put k eb rv).keeps fun c ys ec=>?_,q,es,ep,hq,h2,h3,h4,h5⟩
  rw [upd_ne (ne_of ec e (fun z=>nomatch z))]
  exact ec
end
section
variable {X:Cx} {pins:List (Addr × Obj)} {σ:St} {H:Hp} {s:Shared} {a:Addr} {kvs:List (Key × V)} {k:Key} {u:Value} {A:Around} {E:Value->Shared->Prop}
end
def NoSl (i:Expr):Prop:=∀ ov iv,subscripted i false ov iv=operate [ov,iv] (getItem ov iv)
theorem subD_of {prog:Program} {w:World} {A:Around} {E:Value->Shared->Prop} {s:Shared} {env:Env} {value slice:Expr} {pos:Pos} {T id:String} {Q:Value->Shared->Prop}
  (hl:typeLookup (.type T) "__getitem__"=pure (some (.builtin id))) (hs:NoSl slice)
  (h:wpAny (model prog w) A (eval value env) (fun o s₁=>wpAny (model prog w) A (eval slice env) (fun i s₂=>s₂.TypeIs o T/\wpAny (model prog w) A (getItem o i) Q E s₂) E s₁) E s) :
  wpAny (model prog w) A (eval (.Subscript value slice pos) env) Q E s:=by
 refine Subscript_ (wpAny_mono h (fun o s₁ h₁=>wpAny_mono h₁ (fun i s₂ h₂=>?_) fun _ _ x=>x) fun _ _ x=>x)
 obtain ⟨hT,h₂⟩:=h₂
 unfold subscriptTail
 refine wpAny_bind ?_
 rw [getitemInPython_of_ne hT.not_modules]
 refine wpAny_bind (wpAny_specialOf hT hl ?_)
 have fin:wpAny (model prog w) A (subscripted slice false o i) (fun r s₃=>wpAny (model prog w) A (letTemporaryGo value o r >>= fun _=>pure r) Q E s₃) E s₂:=by
  rw [hs o i]
  exact wpAny_operating (wpAny_mono h₂ (fun r s₃ h₃=>wpAny_bind (wpAny_letTemporaryGo (wpAny_pure h₃))) fun _ _ x=>x)
 first
  | exact wpAny_pure (wpAny_bind fin)
  | exact wpAny_bind (wpAny_pure (wpAny_bind fin))
  | exact wpAny_bind fin
theorem dict_typeIs {X:Cx} {pins:List (Addr × Obj)} {σ:St} {H:Hp} {s:Shared} {a:Addr} {y:V} {o:Option V} (I:Inv X pins σ H s) (g:DGet H a y o):s.TypeIs (.ref a) "dict":=by
 rcases g with ⟨kvs,k,e,_,_⟩ | ⟨kvs,k,b,e,_,_,_⟩
 ·obtain ⟨_,_,vs,_,dd⟩:=dk_rd I.hok e
  exact dd.typeIs
 ·obtain ⟨_,_,xs,_,dd⟩:=dt_rd I.hok e
  exact dd.typeIs
def tDGet (td ty:TE):TE:=fun σ H Q=>td σ H fun x H1=>ty σ H1 fun y H2=>∃ a v,x=.ref a/\DGet H2 a y (some v)/\Q v H2
def tDNotIn (ty td:TE):TE:=fun σ H Q=>ty σ H fun y H1=>td σ H1 fun x H2=>∃ a o,x=.ref a/\DGet H2 a y o/\Q (.bl (!o.isSome)) H2
def sDPut (td ty tv:TE):TS:=fun D σ H=>tv σ H fun v H1=>td σ H1 fun x H2=>ty σ H2 fun y H3=>∃ a H4,x=.ref a/\DPut H3 a y v H4/\D.nx σ H4
section
variable {X:Cx} {o i e value:Expr} {pos pos' tpos:Pos} {td ty tv:TE}
theorem pe_dget (hu:X.A.units + 1 < cLine) (ho:PE X o td) (hi:PE X i ty) (hs:NoSl i):PE X (.Subscript o i pos) (tDGet td ty):=by
 intro pins s σ H Q I h
 refine subD_of PySem.F.slot_dict_getitem.lookup hs (thn (ho pins s σ H _ I h) fun u s1 hz41=>?_)
 obtain ⟨x,H1,I1,rx,q1⟩:=hz41
 refine thn (hi pins s1 σ H1 _ I1 q1) fun iv s2 hz42=>?_
 obtain ⟨y,H2,I2,ry,a,v,ex,g,q2⟩:=hz42
 subst ex
 obtain rfl:u=Value.ref a:=rx
 exact ⟨dict_typeIs I2 g,d_getItem hu I2 g ry fun w' s3 I3 rw'=>⟨v,H2,I3,rw',q2⟩⟩
theorem pc_dnotin (hu:X.A.units + 1 < cLine) (hi:PE X i ty) (ho:PE X o td):PC X .NotIn i o (tDNotIn ty td):=by
 intro pins s σ H Q I h
 refine thn (hi pins s σ H _ I h) fun iv s1 hz43=>?_
 obtain ⟨y,H1,I1,ry,q1⟩:=hz43
 refine thn (ho pins s1 σ H1 _ I1 q1) fun u s2 hz44=>?_
 obtain ⟨x,H2,I2,rx,a,ov,ex,g,q2⟩:=hz44
 subst ex
 obtain rfl:u=Value.ref a:=rx
 exact d_notIn hu I2 g ry fun s3 I3=>⟨.bl (!ov.isSome),H2,I3,rfl,q2⟩
theorem ps_dput (hu:X.A.units + 1 < cLine) (ho:PE X o td) (hi:PE X i ty) (hv:PE X value tv) (hs:swapsWith value (some (.Subscript o i pos')) pos.line X.env=pure false) :
  PS X (.Assign [.Subscript o i pos'] value pos) (sDPut td ty tv):=by
 intro pins s σ H D I h
 refine wpAny_Assign_Subscript (thn (hv pins s σ H _ I h) fun r s1 hz45=>?_) hs
 obtain ⟨v,H1,I1,rv,q1⟩:=hz45
 refine thn (ho pins s1 σ H1 _ I1 q1) fun u s2 hz46=>?_
 obtain ⟨x,H2,I2,rx,q2⟩:=hz46
 refine thn (hi pins s2 σ H2 _ I2 q2) fun iv s3 hz47=>?_
 obtain ⟨y,H3,I3,ry,a,H4,ex,g,q3⟩:=hz47
 subst ex
 obtain rfl:u=Value.ref a:=rx
 exact d_setItem hu I3 g ry rv fun s4 I4=>⟨σ,H4,I4,q3⟩
end
theorem dk_empty {P:Program} {w:World} {H:Hp} (h:Heap) (hb:sysModules < h.objs.size):ObjOk P w H (h.push { cls:=.type "dict",data:=.dict #[] }) h.objs.size (.dK []):=
 ⟨Nat.zero_le _,beq_eq_false_iff_ne.mpr (Ne.symm (Nat.ne_of_lt hb)),[],.nil,Heap.DictOf.new h⟩
def tDNewK:TE:=fun _ H Q=>∀ p,H p=none->Q (.ref p) (upd H p (.dK []))
section
variable {X:Cx} {pos:Pos}
theorem pe_dnewK:PE X (.Dict [] [] pos) tDNewK:=fun pins s σ H Q I h=>
 wpAny_Dict_empty ⟨.ref s.heap.objs.size,_,I.laid (a:=s.heap.objs.size) (o:=.dK []) (t':=s.toks) (fun _ _ q=>Heap.get?_push_of_some _ q) (Nat.le_refl _) (dk_empty s.heap I.big),rfl,h _ (I.hok.fresh (Nat.le_refl _))⟩
end
def tPairs:List (TE × TE)->St->Hp->(List (V × V)->Hp->Prop)->Prop
 | [],_,H,Q=>Q [] H
 | (tk,tv) :: r,σ,H,Q=>tk σ H fun x H1=>tv σ H1 fun y H2=>tPairs r σ H2 fun ps H3=>Q ((x,y) :: ps) H3
abbrev VV:List (V × V)->List (Value × Value)->Prop:=Paired fun p q=>RelV p.1 q.1/\RelV p.2 q.2
def PPs (X:Cx) (pos:Pos) (keys:List (Option Expr)) (values:List Expr) (trs:List (TE × TE)):Prop:=
 ∀ (pins:List (Addr × Obj)) (s:Shared) (σ:St) (H:Hp) (Q:List (V × V)->Hp->Prop),Inv X pins σ H s->tPairs trs σ H Q ->
  wpAny (model X.prog X.w) X.A (evalPairs (pairTrees keys values X.env pos)) (fun vs s'=>∃ ps H',Inv X pins σ H' s'/\VV ps vs/\Q ps H') X.xe s
theorem pps_nil {X:Cx} {pos:Pos}:PPs X pos [] [] []:=fun pins s σ H Q I h=>pairTrees_nil_walk ⟨[],H,I,.nil,h⟩
theorem pps_cons {X:Cx} {pos:Pos} {k v:Expr} {ks:List (Option Expr)} {vs:List Expr} {tk tv:TE} {trs:List (TE × TE)} (hk:PE X k tk) (hv:PE X v tv) (hr:PPs X pos ks vs trs) :
  PPs X pos (some k :: ks) (v :: vs) ((tk,tv) :: trs):=fun pins s σ H Q I h=>
 pairTrees_cons_walk (thn (hk pins s σ H _ I h) fun u s1 ⟨x,H1,I1,rx,q1⟩=>thn (hv pins s1 σ H1 _ I1 q1) fun w2 s2 ⟨y,H2,I2,ry,q2⟩=>
  thn (hr pins s2 σ H2 _ I2 q2) fun ws s3 ⟨ps,H3,I3,rel,q3⟩=>⟨(x,y) :: ps,H3,I3,.cons ⟨rx,ry⟩ rel,q3⟩)
def mergeK (kvs more:List (Key × V)):List (Key × V):=more.foldl (fun acc kv=>putK acc kv.1 kv.2) kvs
theorem KV.merge:∀ {more:List (Key × V)} {rs:List (Key × Value)} {kvs:List (Key × V)} {vs:List (Key × Value)},KV more rs->KV kvs vs->KV (mergeK kvs more) (merged vs rs):=by
 intro more rs kvs vs r
 unfold KV at r
 induction r generalizing kvs vs with
 | nil=>intro q;exact q
 | @cons p q ps qs h t ih=>
  intro r0
  have e:KV (putK kvs p.1 p.2) (stored vs q.1 q.2):=by
   have:=r0.put p.1 h.2
   rw [<- h.1];exact this
  exact ih e
theorem length_mergeK:∀ (more kvs:List (Key × V)),(mergeK kvs more).length <= kvs.length + more.length
 | [],kvs=>by show kvs.length <= kvs.length + 0;omega
 | p :: r,kvs=>by
  have h1:=length_mergeK r (putK kvs p.1 p.2)
  have h2:=length_putK kvs p.1 p.2
  show (mergeK (putK kvs p.1 p.2) r).length <= _
  rw [List.length_cons];omega
theorem carries_of {P:Program} {w:World}:∀ {kvs:List (Key × V)} {ws:List (Value × Value)},VV (kvs.map fun kv=>(kV kv.1,kv.2)) ws->∃ rs,Carries (mixKind P w) ws rs/\KV kvs rs
 | [],_,r=>by rw [List.map_nil] at r;cases r;exact ⟨[],True.intro,.nil⟩
 | p :: kvs,_,r=>by
  rw [List.map_cons] at r
  cases r with
  | @cons a b as bs h t=>
   obtain ⟨rs,c,q⟩:=carries_of (P:=P) (w:=w) t
   obtain ⟨b1,b2⟩:=b
   exact ⟨(p.1,b2) :: rs,⟨kV_is h.1,rfl,c⟩,.cons ⟨rfl,h.2⟩ q⟩
def tDisp (trs:List (TE × TE)):TE:=fun σ H Q=>∀ p,H p=none->tPairs trs σ (upd H p (.dK [])) fun ps H2=>H2 p=some (.dK [])/\∃ kvs:List (Key × V),ps=kvs.map (fun kv=>(kV kv.1,kv.2))/\kvs.length <= 15/\Q (.ref p) (upd H2 p (.dK (mergeK [] kvs)))
theorem pe_disp {X:Cx} {pos:Pos} {keys:List (Option Expr)} {values:List Expr} {trs:List (TE × TE)} (h:PPs X pos keys values trs) (hall:keys.all (·.isSome)=true) (hl:keys.length=values.length) (h0:keys ≠ [])
  (h15:keys.length <= 15):PE X (.Dict keys values pos) (tDisp trs):=by
 intro pins s σ H Q I q
 have hn:=I.hok.fresh (Nat.le_refl s.heap.objs.size)
 have I1:=I.laid (a:=s.heap.objs.size) (o:=.dK []) (h':=s.heap.push { cls:=.type "dict",data:=.dict #[] }) (t':=s.toks) (fun _ _ q=>Heap.get?_push_of_some _ q) (Nat.le_refl _) (dk_empty s.heap I.big)
 refine wpAny_Dict_walk (knd:=mixKind X.prog X.w) hall hl h0 h15 (thn (h pins _ σ _ _ I1 (q _ hn)) fun ws s2 hz48=>?_)
 obtain ⟨ps,H2,I2,rel,e,kvs,ep,lk,q2⟩:=hz48
 subst ep
 obtain ⟨rs,c,rk⟩:=carries_of (P:=X.prog) (w:=X.w) rel
 obtain ⟨z,hd,vs0,r0,dd⟩:=dk_of I2.hok e
 cases r0
 refine ⟨rs,c,dd,fun h' dd' hs=>⟨.ref s.heap.objs.size,_,?_,rfl,q2⟩⟩
 have hz:(mergeK [] kvs).length <= sizeLine:=by
  have h1:=length_mergeK kvs []
  rw [List.length_nil] at h1
  rw [sizeLine_eq];omega
 have he:∃ q,h'.get? s.heap.objs.size=some q:=let ⟨q,_,_,hq,_⟩:=dd';⟨q,hq⟩
 exact d_write I2 (by rw [e];exact True.intro) hs he (dk_new hz hd (rk.merge .nil) dd')
section
variable {X:Cx} {pins:List (Addr × Obj)} {σ:St} {H:Hp} {s:Shared} {a:Addr} {y d:V} {u r:Value} {o:Option V} {A:Around} {E:Value->Shared->Prop}
end
section
variable {X:Cx} {o e f:Expr} {apos cpos:Pos} {td ty tx:TE}
end
section
variable {X:Cx} {pins:List (Addr × Obj)} {σ:St} {H:Hp} {s:Shared} {a:Addr} {kvs:List (Key × V)} {A:Around} {E:Value->Shared->Prop}
end
section
variable {X:Cx} {pins:List (Addr × Obj)} {σ:St} {H:Hp} {s:Shared} {a:Addr} {y:V} {u:Value} {A:Around} {E:Value->Shared->Prop}
end
end L2
namespace Att
open PySem PySem.W PySem.Calls PyProof.Rows
theorem ints_of_wellAll {P:Params} {h:Heap}:∀ (ns:List Int) (vs:List Value),WellAll P h vs (ns.map WData.int)->IntsAre vs ns:=by
 intro ns
 induction ns with
 | nil=>
  intro vs w
  rw [List.map_nil] at w
  cases w
  exact .nil
 | cons n ns ih=>
  intro vs w
  rw [List.map_cons] at w
  cases w with
  | cons a b=>
   cases a
   exact .cons _ _ (ih _ b)
theorem script_of {l:OpenLaw} {n:Nat} (hn:l.most=some n) {P:Params} {h:Heap} {args:List WData} {vals:List Value}
  (hpre:l.row.toRowW.claim.pre args=true) (hwl:WellAll P h vals args) :
  ∃ a vs ns,vals=[Value.ref a]/\args=[WData.list (ns.map WData.int)]/\h.get? a=some { cls:=.type "list",data:=.seq vs.toArray }/\IntsAre vs ns/\ns.length <= n:=by
 have hsh:WShape.hasAll [] args [.list .int]=true:=(pre_splitW hpre).1
 have hc:l.pre.holds [] { args:=args }=true:=(pre_splitW hpre).2
 obtain ⟨d,r,rfl,h1,h2⟩:=hasAllW_cons hsh
 obtain rfl:=hasAllW_nil h2
 obtain ⟨xs,rfl,h3⟩:=hasW_list h1
 obtain ⟨ns,rfl⟩:=items_int h3
 have hlen:ns.length <= n:=by
  unfold OpenLaw.pre at hc
  have h4:(WTm.not (.lt (.lit (.int (n:Int))) (.len (.arg 0)))).holds [] { args:=[.list (ns.map .int)] }=true:=by
   have h4:=(holds_andW hc).1
   rw [hn] at h4
   exact h4
  have h5:=condW_of h4 (w_not (w_lt w_lit (w_len_list (w_arg rfl))))
  rw [List.length_map] at h5
  refine Nat.le_of_not_lt fun q=>?_
  have q':(n:Int) < ((ns.length:Nat):Int):=by omega
  first
   | (rw [decide_eq_true q'] at h5;exact absurd h5 (by decide))
   | (simp at h5;omega)
 cases hwl with
 | cons w1 w2=>
  cases w2
  cases w1 with
  | list ho hall=>exact ⟨_,_,ns,rfl,rfl,ho,ints_of_wellAll ns _ hall,hlen⟩
theorem post_true (l:OpenLaw) (args:List WData):l.row.toRowW.claim.post args (.bool true) args=true:=
 postW_of (r:=l.row.toRowW) (X:=(true == true))
  (show WShape.has [] (.bool true) .bool=true by first | rfl | decide | simp [WShape.has,WShape.arms,WShape.armsAll])
  (show (WTm.eq .res (.lit (.bool true))).value [] { args:=args,res:=some (.bool true),after:=args }=some (.bool (true == true)) from w_eq_bool (w_res rfl) w_lit) rfl
theorem attach_call {l:OpenLaw} {n:Nat} {q:Program} {loose:List Str} {XP:(Str->Option Value)->Heap->Prop} {YP:World->Heap->Prop} {d:DefRec}
  (hn:l.most=some n) (hdf:d.params.defaults=[])
  (call:∀ (w:World) (s₀ s₁:Shared) (mg mb:Str->Option Value) (fa:Addr) (o:Obj) (pm cd doc:Value) (a:Addr) (vs:List Value) (ns:List Int),
   Ground q loose [] XP w s₀ mg mb s₁.heap->YP w s₁.heap ->
   s₁.heap.get? fa=some o->o.data=.func (docDef d.name d.params d.body d.scope pm cd doc)->s₁.heap.CodeRec cd d.name->mg d.name=some (.ref fa) ->
   s₁.heap.get? a=some { cls:=.type "list",data:=.seq vs.toArray }->IntsAre vs ns->ns.length <= n->s₁.gens = #[] ->
   codeAny (model l.prog w) callerA (.call (.ref fa) ⟨[.ref a],[]⟩) (fun r s'=>r=.ok (.ret (.bool true))/\OldK s₁.heap s'.heap/\s'.os=s₁.os/\AllBare s'.gens) s₁) :
  WalkO q loose XP YP l.row.toRowW d [] (fun f vs=>PySem.call f vs):=by
 intro w s₀ s₁ mg mb G Y fa o pm cd doc dV kV ho hd hcd hD hmg hg args vals as hpre hlay hrd hwl hlo
 obtain rfl:dV=.none:=Dflts.none hD hdf
 obtain rfl:kV=.none:=Dflts.noKw hD
 obtain ⟨a,vs,ns,rfl,rfl,hobj,hints,hlen⟩:=script_of hn hpre hwl
 refine enter_call (codeAny_mono (call w s₀ s₁ mg mb fa o pm cd doc a vs ns G Y ho (fd_plain hd) hcd hmg hobj hints hlen hg) fun r s' hq=>?_)
 obtain ⟨rfl,h2,h3,h4⟩:=hq
 exact ⟨.inl ⟨.bool true,.bool true,[],rfl,fun _=>rfl,.bool true,post_true l _,fun _=>⟨List.Pairwise.nil,fun _ hm=>(nomatch hm)⟩⟩,h2,h3,h4⟩
section
variable {prog:Program} {w:World} {A:Around} {E:Value->Shared->Prop} {s:Shared} {K:Frag}
end
end Att
namespace L2
open PySem PySem.Spec PyProof.Rows
theorem vals_ints {vs:List Value} {ns:List Int} (h:IntsAre vs ns):Vals (ns.map V.int) vs:=by
 induction h with
 | nil=>exact .nil
 | cons n t _ ih=>exact .cons ⟨t,rfl⟩ ih
def Only (H:Hp):Prop:=∀ b,H b=none \/ ∃ o xs,H b=some (.frz o (.lst xs))
end L2
namespace L2
open PySem PySem.Spec PyProof.Rows
end L2
namespace L2
open PySem PySem.Spec PyProof.Rows
def inClass (s:Stmt) (j:Nat):Stmt:=match s with
 | .ClassDef _ _ _ body _ _ _ _ _ _ _=>body.getD j (.Pass ⟨0,0,0,0⟩)
 | _=>.Pass ⟨0,0,0,0⟩
def defArgs (s:Stmt):Arguments:=match s with
 | .FunctionDef _ a _ _ _ _ _ _ _ _=>a
 | _=>{ posonlyargs:=[],args:=[],vararg:=none,kwonlyargs:=[],kw_defaults:=[],kwarg:=none,defaults:=[] }
def defBody (s:Stmt):List Stmt:=match s with
 | .FunctionDef _ _ b _ _ _ _ _ _ _=>b
 | _=>[]
def defScope (s:Stmt):Scope:=match s with
 | .FunctionDef _ _ _ _ _ _ sc _ _ _=>sc
 | _=>{ kind:=.function,names:=[],isGenerator:=false,isCoroutine:=false }
abbrev CX0:CXT:=fun _ _ _ _ _ _=>False
abbrev E0:XK:=fun _ _ _=>False
theorem pass0 {X:Cx}:Passes CX0 X E0:=fun _ _ _ _ _ _ _ h=>h.elim
structure Fun (K:PySem.W.Frag) (x qual:Str) (st:Stmt) (f:Addr) (fd:FuncData):Prop where
 ex:∃ (oc:Value) (od:Option Addr) (kV doc pm:Value) (an:Option Addr) (cdv ct:Value) (osl:Array (Option Value)),
  fd=PySem.W.fnOf x qual (defArgs st) (defBody st) (defScope st) .none kV doc pm an cdv ct/\K.lookup f=some ⟨oc,od,.func fd,osl⟩/\PySem.W.codeIn K cdv qual=true
 kp:PySem.W.keepIn K (.ref f)=true
section
variable {P:Program} {w:World} {K:PySem.W.Frag} {mg:Str->Option Value} {base:Heap}
theorem Fun.ok {x qual:Str} {st:Stmt} {f:Addr} {fd:FuncData} {N ps:List Str} {k:Nat} {sp:Sp} (F:Fun K x qual st f fd) (S:FnScope N ps (defScope st)) (len:∀ vs H Q E,sp vs H Q E->vs.length=ps.length)
  (hbody:∀ (cdv:Value) (A:Around) (outer:List Env) (s:Shared) (H:Hp) (vs:List V) (Q:VK) (E:XK),Room k (A.deeper (envOfC qual (defScope st) s.heap.objs.size f cdv))->sp vs H Q E ->
   ∃ t,PSs (cxOf CX0 P w K mg base N qual (defScope st) f cdv A outer s H E).nox (defBody st) t/\t { nx:=fun _ H'=>Q .non H',rt:=Q } (start N vs) H):FnOk P w K mg base CX0 (k + 1) f fd ps sp:=by
 obtain ⟨oc,od,kV,doc,pm,an,cdv,ct,osl,rfl,lk,hcd⟩:=F.ex
 refine fn_of lk hcd S len fun A outer s H vs Q E hr hsp=>?_
 obtain ⟨t,h,q⟩:=hbody cdv A outer s H vs Q E hr hsp
 exact ⟨t,h.nox,q⟩
theorem Fun.binds {x qual:Str} {st:Stmt} {f:Addr} {fd:FuncData} {ps:List Str} (F:Fun K x qual st f fd)
  (h:∀ (kV doc pm:Value) (an:Option Addr) (cdv ct:Value) (us:List Value),us.length=ps.length->bindArgs (PySem.W.fnOf x qual (defArgs st) (defBody st) (defScope st) .none kV doc pm an cdv ct) ⟨us,[]⟩=pure (ps.zip us)):Binds K fd ps []:=by
 obtain ⟨oc,od,kV,doc,pm,an,cdv,ct,osl,rfl,lk,hcd⟩:=F.ex
 exact .all (h kV doc pm an cdv ct)
theorem fun_mk {x qual:Str} {st:Stmt} {f:Addr} {oc:Value} {od an:Option Addr} {osl:Array (Option Value)} {kV doc pm cdv ct:Value} (l:K.lookup f=some ⟨oc,od,.func (PySem.W.fnOf x qual (defArgs st) (defBody st) (defScope st) .none kV doc pm an cdv ct),osl⟩)
  (c:PySem.W.codeIn K cdv qual=true) (k:PySem.W.keepIn K (.ref f)=true):Fun K x qual st f (PySem.W.fnOf x qual (defArgs st) (defBody st) (defScope st) .none kV doc pm an cdv ct):=⟨⟨oc,od,kV,doc,pm,an,cdv,ct,osl,rfl,l,c⟩,k⟩
end
theorem hu_of {A:Around} {k:Nat} (hr:Room k A):A.units + 1 < cLine:=Nat.lt_of_le_of_lt (Nat.add_le_add_left (by decide:1 <= 64) _) hr.units
theorem small1000 {n:Nat} (h:n <= 1000):n < sizeLine:=Nat.lt_of_le_of_lt h (by decide)
section
variable {X:Cx}
theorem pv (i:Nat) {x:Str} {pos:Pos} (hN:X.N[i]?=some x:=by rfl) (hv:Vis X.env.scope x:=by first | exact Or.inl rfl | exact Or.inr (Or.inl rfl) | exact Or.inr (Or.inr rfl)) (hd:(x == ("__debug__" : Str))=false:=by decide)
  (hcd:(x == ("__classdict__" : Str))=false:=by decide):PE X (.Name x pos) (tVar i):=pe_var hN hv hd hcd
end
theorem iteF {A B:Prop} (h:B):if false=true then A else B:=by
 rw [if_neg Bool.false_ne_true]
 exact h
theorem iteT {A B:Prop} (h:A):if true=true then A else B:=by
 rw [if_pos rfl]
 exact h
theorem ite2 {c A B:Prop} [Decidable c] (h1:c->A) (h2:¬ c->B):if c then A else B:=by
 by_cases h:c
 ·rw [if_pos h]
  exact h1 h
 ·rw [if_neg h]
  exact h2 h
end L2
set_option maxHeartbeats 4000000
namespace L2
open PySem PySem.Spec PyProof.Rows
def clF (env:Env):List (Str × NameKind)->List (Str × Addr)->List (Str × Addr)
 | [],cs=>cs
 | (n,k) :: r,cs=>clF env r (if k == NameKind.free then (n,(env.cells.lookup n).getD 0) :: cs else cs)
theorem clF_run (env:Env):∀ (l:List (Str × NameKind)) (cs:List (Str × Addr)),(∀ n,(n,NameKind.free) ∈ l->(env.cells.lookup n).isSome=true) ->
  (forIn l cs fun x r=>(match x with
   | (name,kind)=>if (kind == NameKind.free)=true then (do let c <- cellOf env name;pure (ForInStep.yield ((name,c) :: r))) else pure (ForInStep.yield r):Sem (ForInStep (List (Str × Addr)))))=pure (clF env l cs):=by
 intro l
 induction l with
 | nil=>intro cs _;rfl
 | cons x l ih=>
  intro cs h
  obtain ⟨n,k⟩:=x
  rw [List.forIn_cons]
  by_cases hk:k=NameKind.free
  ·subst hk
   have h1:=h n List.mem_cons_self
   obtain ⟨c,hc⟩:=Option.isSome_iff_exists.mp h1
   simp only [beq_self_eq_true,if_true,clF,hc,Option.getD_some,cellOf,pure_bind]
   exact ih _ fun m hm=>h m (List.mem_cons_of_mem _ hm)
  ·have hb:(k == NameKind.free)=false:=by simpa using hk
   simp only [hb,Bool.false_eq_true,if_false,clF,pure_bind]
   exact ih _ fun m hm=>h m (List.mem_cons_of_mem _ hm)
theorem closureFor_clF {scope:Scope} {env:Env} (h:∀ n,(n,NameKind.free) ∈ scope.names->(env.cells.lookup n).isSome=true) :
  closureFor scope env=pure (clF env scope.names []):=by
 have e:=clF_run env scope.names [] h
 unfold closureFor
 simp only [bind_pure] at e ⊢
 exact e
theorem clF_sub (env:Env):∀ (l:List (Str × NameKind)) (cs:List (Str × Addr)),(∀ n,(n,NameKind.free) ∈ l->(env.cells.lookup n).isSome=true) ->
  (∀ y c,cs.lookup y=some c->env.cells.lookup y=some c)->∀ y c,(clF env l cs).lookup y=some c->env.cells.lookup y=some c:=by
 intro l
 induction l with
 | nil=>intro cs _ h;exact h
 | cons x l ih=>
  intro cs h hc
  obtain ⟨n,k⟩:=x
  refine ih _ (fun m hm=>h m (List.mem_cons_of_mem _ hm)) ?_
  by_cases hk:k=NameKind.free
  ·subst hk
   obtain ⟨c,e⟩:=Option.isSome_iff_exists.mp (h n List.mem_cons_self)
   simp only [beq_self_eq_true,if_true,e,Option.getD_some]
   intro y c' q
   rw [List.lookup_cons] at q
   cases hy:y == n with
   | true=>
    rw [hy] at q
    have ey:y=n:=by simpa using hy
    cases q
    rw [ey];exact e
   | false=>
    rw [hy] at q
    exact hc y c' q
  ·have hb:(k == NameKind.free)=false:=by simpa using hk
   simp only [hb,Bool.false_eq_true,if_false]
   exact hc
theorem clF_has (env:Env):∀ (l:List (Str × NameKind)) (cs:List (Str × Addr)) (y:Str),((y,NameKind.free) ∈ l \/ (cs.lookup y).isSome=true)->((clF env l cs).lookup y).isSome=true:=by
 intro l
 induction l with
 | nil=>intro cs y h;exact h.elim (fun z=>by cases z) id
 | cons x l ih=>
  intro cs y h
  obtain ⟨n,k⟩:=x
  refine ih _ y ?_
  rcases h with h | h
  ·rcases List.mem_cons.mp h with e | e
   ·cases e
    right
    simp
   ·exact .inl e
  ·right
   by_cases hk:k=NameKind.free
   ·subst hk
    simp only [beq_self_eq_true,if_true,List.lookup_cons]
    cases hy:y == n <;> simp [h]
   ·have hb:(k == NameKind.free)=false:=by simpa using hk
    simp only [hb,Bool.false_eq_true,if_false]
    exact h
theorem relabel_kind {scope:Scope} {env:Env}:∀ (l:List (Str × NameKind)) (x:Str) (k:NameKind),
  (l.map fun (n,k)=>if (k == NameKind.free && env.scope.kind == .function && env.kindOf n == some .cell) then (n,NameKind.cell) else (n,k)).lookup x=some k->k=.cell \/ k=.free ->
  (∀ y ∈ l,y.2 ≠ .cell)->(x,NameKind.free) ∈ l
 | [],x,k,h,_,_=>by simp at h
 | (n,k') :: r,x,k,h,hk,hc=>by
  rw [List.map_cons,List.lookup_cons] at h
  have hn:(if (k' == NameKind.free && env.scope.kind == .function && env.kindOf n == some .cell)=true then (n,NameKind.cell) else (n,k')).1=n:=by split <;> rfl
  simp only [hn] at h
  cases hx:x == n with
  | true=>
   rw [hx] at h
   have ex:x=n:=by simpa using hx
   subst ex
   simp only [Option.some.injEq] at h
   split at h
   ·rename_i q
    simp only [Bool.and_eq_true,beq_iff_eq] at q
    rw [q.1.1];exact List.mem_cons_self
   ·have h':k'=k:=h
    rcases hk with z | z
    ·exact absurd (h'.trans z) (hc _ List.mem_cons_self)
    ·rw [h',z];exact List.mem_cons_self
  | false=>
   rw [hx] at h
   exact List.mem_cons_of_mem _ (relabel_kind (scope:=scope) r x k h hk fun y hy=>hc y (List.mem_cons_of_mem _ hy))
def cxC (X:Cx) (xs:List Str) (ix:List Nat) (scope:Scope) (C:Addr) (fp:List Addr) (s:Shared) (H:Hp):Cx:=
  { X with N:=xs ++ ix.map (fun i=>X.N.getD i ""),s₀:=s,H₀:=H,env:=compEnvC scope (clF X.env scope.names []) C X.env,
           outer:=X.stack,stack:=X.stack,ex:=fp,fn:=fun _=>false,pn:=[],xe:=fun _ _=>False }
def stC (xs:List Str) (ix:List Nat) (σ:St):St:=xs.map (fun _=>none) ++ ix.map (fun i=>(σ[i]?).join)
structure CompScope (X:Cx) (xs:List Str) (ix:List Nat) (scope:Scope):Prop where
 kind:scope.kind=.function
 nocell:∀ y ∈ scope.names,y.2 ≠ .cell
 loc:∀ y ∈ scope.names,y.2=.local->scope.names.lookup y.1=some .local
 fre:∀ n,(n,NameKind.free) ∈ scope.names->X.env.kindOf n=some .cell \/ X.env.kindOf n=some .free
 own:∀ x ∈ xs,scope.names.lookup x=some .local
 nd:(xs ++ ix.map (fun i=>X.N.getD i "")).Nodup
 inN:∀ i ∈ ix,i < X.N.length
 frx:∀ i ∈ ix,scope.names.lookup (X.N.getD i "")=some .free
theorem relabel_free {scope:Scope} {env:Env}:∀ (l:List (Str × NameKind)) (x:Str),l.lookup x=some .free ->
  (l.map fun (n,k)=>if (k == NameKind.free && env.scope.kind == .function && env.kindOf n == some .cell) then (n,NameKind.cell) else (n,k)).lookup x=some .cell \/
  (l.map fun (n,k)=>if (k == NameKind.free && env.scope.kind == .function && env.kindOf n == some .cell) then (n,NameKind.cell) else (n,k)).lookup x=some .free
 | [],x,h=>by simp at h
 | (n,k') :: r,x,h=>by
  rw [List.lookup_cons] at h
  rw [List.map_cons,List.lookup_cons]
  have hn:(if (k' == NameKind.free && env.scope.kind == .function && env.kindOf n == some .cell)=true then (n,NameKind.cell) else (n,k')).1=n:=by split <;> rfl
  simp only [hn]
  cases hx:x == n with
  | true=>
   rw [hx] at h
   have h':k'=.free:=Option.some.inj h
   subst h'
   by_cases hc:(NameKind.free == NameKind.free && env.scope.kind == .function && env.kindOf n == some .cell)=true
   ·left;simp only [if_pos hc]
   ·right;simp only [if_neg hc]
  | false=>
   rw [hx] at h
   exact relabel_free (scope:=scope) r x h
theorem block_start {X:Cx} {xs:List Str} {ix:List Nat} {scope:Scope} {pins:List (Addr × Obj)} {σ:St} {H:Hp} {s s1:Shared} {fp:List Addr} {h1:Heap} {tk:Nat}
  (S:CompScope X xs ix scope) (I:Inv X pins σ H s) (hf:∀ b ∈ fp,FpOk X pins H b) (hfo:∀ b ∈ fp,∃ o,s.heap.get? b=some o)
  (hns:h1.Ns s.heap.objs.size (fun _=>none)) (hk:∀ b o,s.heap.get? b=some o->h1.get? b=some o) (e1:s1 = { s with heap:=h1,toks:=tk }) :
  Inv (cxC X xs ix scope s.heap.objs.size fp s H) [] (stC xs ix σ) H s1:=by
 subst e1
 have hcl:∀ n,(n,NameKind.free) ∈ scope.names->(X.env.cells.lookup n).isSome=true:=fun n hn=>by
  obtain ⟨c,e⟩:=I.ok.has n (S.fre n hn)
  rw [e];rfl
 have sub:=clF_sub X.env scope.names [] hcl (fun y c q=>by simp at q)
 have has:=fun y hy=>clF_has X.env scope.names [] y (.inl hy)
 have fpl:∀ b ∈ fp,b ∉ frs X.stack:=fun b hb z=>by
  obtain ⟨_,f1,f2,_⟩:=hf b hb
  rcases List.mem_cons.mp (I.stkSub b z) with q | q
  ·exact f1 q
  ·exact f2 q
 have kindR:∀ x k,(cxC X xs ix scope s.heap.objs.size fp s H).env.kindOf x=some k->k=.cell \/ k=.free->(x,NameKind.free) ∈ scope.names:=fun x k e hk'=>
  relabel_kind (scope:=scope) (env:=X.env) scope.names x k e hk' S.nocell
 refine ⟨⟨I.ok.mod,S.kind,I.ok.glob,I.ok.blt,Nat.le_refl _,fun x y c a b=>?_,fun x hx=>?_,fun x c z=>(by cases z),I.ok.hd,I.ok.frames,.inl rfl,fun b hb=>?_,I.bs,Nat.le_trans I.ok.bsz I.sz,fun b o e hb=>?_,fpl,I.stack,I.stkFree⟩,
  rfl,I.bare,Un.kept hk,⟨_,hns,fun i x v e1 e2 e3=>?_⟩,fun x c e=>?_,I.hok.fresh (Nat.le_refl _),fun x c e=>I.freeC x c (sub x c e),fun p hp=>absurd (show p ∈ ([]:List (Addr × Obj)) from hp) (by simp),I.hok.kept hk,?_⟩
 ·exact I.ok.inj x y c (sub x c a) (sub y c b)
 ·have hm:(x,NameKind.free) ∈ scope.names:=hx.elim (fun z=>kindR x _ z (.inl rfl)) fun z=>kindR x _ z (.inr rfl)
  exact Option.isSome_iff_exists.mp (has x hm)
 ·obtain ⟨f0,f1,f2,f3,f4,f5⟩:=hf b hb
  obtain ⟨o,ho⟩:=hfo b hb
  exact ⟨fun z=>Nat.lt_irrefl _ (Nat.lt_of_lt_of_eq (Heap.lt_size ho) z.symm),fun x c e=>f4 x c (sub x c e)⟩
 ·obtain ⟨f0,f1,f2,f3,f4,f5⟩:=hf b hb
  rcases f3 with q | q
  ·exact I.ok.noex b o e q
  ·exact Nat.lt_irrefl _ (Nat.lt_of_lt_of_le (Heap.lt_size e) (Nat.le_trans I.ok.bsz q))
 ·have e2':(xs.map (fun _=>(none:Option V)) ++ ix.map (fun i=>(σ[i]?).join))[i]?=some (some v):=e2
  have e1':(xs ++ ix.map (fun i=>X.N.getD i ""))[i]?=some x:=e1
  by_cases hi:i < xs.length
  ·rw [List.getElem?_append_left (by simpa using hi),List.getElem?_map] at e2'
   cases q:xs[i]? with
   | none=>rw [q] at e2';cases e2'
   | some z=>rw [q] at e2';cases e2'
  ·have hi':xs.length <= i:=Nat.not_lt.mp hi
   rw [List.getElem?_append_right (by simpa using hi'),List.length_map,List.getElem?_map] at e2'
   rw [List.getElem?_append_right hi',List.getElem?_map] at e1'
   cases q:ix[i - xs.length]? with
   | none=>rw [q] at e2';cases e2'
   | some j=>
    rw [q] at e1' e2'
    have hj:j ∈ ix:=List.mem_of_getElem? q
    have ex:X.N.getD j ""=x:=Option.some.inj e1'
    have ev:(σ[j]?).join=some v:=Option.some.inj e2'
    have hjl:=S.inN j hj
    have eN:X.N[j]?=some x:=by
     rw [<- ex,List.getD_eq_getElem?_getD]
     rw [List.getElem?_eq_getElem hjl];rfl
    have eσ:σ[j]?=some (some v):=by
     cases z:σ[j]? with
     | none=>rw [z] at ev;cases ev
     | some y=>rw [z] at ev;simp at ev;rw [ev]
    have hfr:=S.frx j hj
    rw [ex] at hfr
    have hkin:=S.fre x (PySem.mem_of_lookup hfr)
    obtain ⟨m,hn,hl⟩:=I.loc
    obtain ⟨u,ru,lk⟩:=hl j x v eN eσ (hkin.elim (fun z=>.inr (.inl z)) fun z=>.inr (.inr z))
    refine ⟨u,ru,.inr ⟨relabel_free (scope:=scope) (env:=X.env) scope.names x hfr,?_⟩⟩
    rcases lk with ⟨k1,_⟩ | ⟨_,c,ec,zc⟩
    ·rcases hkin with z | z <;> (rw [z] at k1;cases k1)
    ·obtain ⟨c',ec'⟩:=Option.isSome_iff_exists.mp (has x (PySem.mem_of_lookup hfr))
     have q2:=sub x c' ec'
     rw [ec] at q2;cases q2
     obtain ⟨oc,hoc,hd⟩:=zc
     exact ⟨c,ec',oc,hk c oc hoc,hd⟩
 ·obtain ⟨v,oc,hoc,hd⟩:=I.cell x c (sub x c e)
  exact ⟨v,oc,hk c oc hoc,hd⟩
 ·show (xs.map (fun _=>(none:Option V)) ++ ix.map (fun i=>(σ[i]?).join)).length=(xs ++ ix.map (fun i=>X.N.getD i "")).length
  simp
theorem lc_loop {prog:Program} {w:World} {A:Around} {R:Result->Shared->Prop} {s:Shared} {elt target iter:Expr} {ifs:List Expr} {scope:Scope} {pos:Pos} {it acc:Value} {env:Env} (J:Nat->Shared->Prop)
  (turn:∀ n s,J n s->wpAny (model prog w) A (pyNext it) (fun r s1=>match r with
   | none=>R (.ok .next) s1
   | some v=>wpAny (model prog w) A (letOwnedTupleGo target it v) (fun _ s1'=>wpAny (model prog w) A (assign target env v) (fun _ s2=>
     wpAny (model prog w) A (forIn ifs true fun c r=>if r=true then do let ok <- isTrue c env (eval c env);pure (ForInStep.yield ok) else pure (ForInStep.yield r)) (fun ok s3=>
      if ok=true then wpAny (model prog w) A (eval elt env) (fun x s4=>
       wpAny (model prog w) A (call (.builtin "list.append") [acc,x]) (fun _ s5=>∃ m,m < n/\J m s5) (fun _ _=>False) s4) (fun _ _=>False) s3
      else ∃ m,m < n/\J m s3) (fun _ _=>False) s2) (fun _ _=>False) s1') (fun _ _=>False) s1) (fun _ _=>False) s)
  (n:Nat) (h:J n s):codeAny (model prog w) A (.compLoop (.ListComp elt [⟨target,iter,ifs,0⟩] scope pos) 0 it acc env) R s:=by
 refine codeAny_loop rfl J (fun n s hJ=>?_) n h
 have nof:∀ (e:Value) (s':Shared),False->notedBy (model prog w) A env (fun e s'=>R (.error e) s') e s':=fun _ _ f=>f.elim
 show wpAny (model prog w) A ((compTurn (.ListComp elt [⟨target,iter,ifs,0⟩] scope pos) 0 it acc env).onRaise (fun x=>do noteFrame x env;theTreesLotGoes x)) _ _ s
 refine wpAny_noted ?_
 rw [compTurn_list]
 refine wpAny_bind (wpAny_standAt (wpAny_bind (wpAny_mono (turn n s hJ) (fun r s1 h1=>?_) nof)))
 cases r with
 | none=>exact wpAny_pure h1
 | some v=>
  refine wpAny_bind (wpAny_mono h1 (fun _ s1' h1'=>?_) nof)
  refine wpAny_bind (wpAny_mono h1' (fun _ s2 h2=>?_) nof)
  refine wpAny_bind (wpAny_mono h2 (fun ok s3 h3=>?_) nof)
  cases ok with
  | false=>exact wpAny_pure ⟨rfl,h3⟩
  | true=>
   refine wpAny_bind (wpAny_bind (wpAny_mono h3 (fun x s4 h4=>?_) nof))
   exact wpAny_bind (wpAny_mono h4 (fun _ s5 h5=>wpAny_pure (wpAny_pure ⟨rfl,h5⟩)) nof)
def PTs (X:Cx) (ifs:List Expr) (t:TT):Prop:=
 ∀ (pins:List (Addr × Obj)) (s:Shared) (σ:St) (H:Hp) (Q:Bool->Hp->Prop),Inv X pins σ H s->t σ H Q ->
  wpAny (model X.prog X.w) X.A (forIn ifs true fun c r=>if r=true then do let ok <- isTrue c X.env (eval c X.env);pure (ForInStep.yield ok) else pure (ForInStep.yield r)) (TP X pins σ Q) X.xe s
def tYes:TT:=fun _ H Q=>Q true H
theorem pts_nil {X:Cx}:PTs X [] tYes:=fun _ _ _ H _ I h=>wpAny_tests_nil ⟨H,I,h⟩
def LCW (J:It) (xs:List Str) (ix:List Nat) (g:TG) (tt:TT) (te:TE) (σ:St) (H1:Hp) (acc:Addr) (Q:VK):Prop:=
 ∃ W:Nat->Nat->List V->St->Hp->Prop,(∃ m,W 0 m [] (stC xs ix σ) (upd H1 acc (.lst []))) /\
  ∀ i m ys τ H,W i m ys τ H->H acc=some (.lst ys)/\ys.length < sizeLine /\
   ((J.stop i H/\Q (.ref acc) H) \/ (J.go i H/\∃ N:List V->St->Hp->Prop,(∀ ys' τ' H',N ys' τ' H'->∃ m',m' < m/\W (i + 1) m' ys' τ' H') /\
    ∀ x H',J.yld i H x H'->g x τ H' fun τ2 H2=>tt τ2 H2 fun b H3=>
    if b=true then te τ2 H3 fun y H4=>H4 acc=some (.lst ys)/\N (ys ++ [y]) τ2 (upd H4 acc (.lst (ys ++ [y]))) else N ys τ2 H3))
def tLC (xs:List Str) (ix:List Nat) (wi:TI) (g:TG) (tt:TT) (te:TE):TE:=fun σ H Q=>wi σ H fun J H1=>∀ acc,H1 acc=none->LCW J xs ix g tt te σ H1 acc Q
structure TurnG (Reg:Cx->Prop) (P:Program) (w:World) (tg:Expr) (J:It) (fp:List Addr) (it:Addr) (tn:Nat->Heap->Prop):Prop where
 mem:it ∈ fp
 obj:∀ i h,tn i h->∀ b ∈ fp,∃ o,h.get? b=some o/\∀ v,o.data ≠ .cell v
 keep:∀ i h h',tn i h->(∀ b ∈ fp,∀ o,h.get? b=some o->h'.get? b=some o)->tn i h'
 item:∀ (X:Cx),X.prog=P->X.w=w->Reg X->∀ (i:Nat) (pins:List (Addr × Obj)) (s:Shared) (σ:St) (H:Hp) (E:Value->Shared->Prop),Inv X pins σ H s->(∀ b ∈ fp,FpOk X pins H b)->tn i s.heap->J.go i H ->
  wpAny (model P w) X.A (pyNext (.ref it)) (fun r s1=>∃ u,r=some u /\
   wpAny (model P w) X.A (letOwnedTupleGo tg (.ref it) u) (fun _ s2=>∃ x H',Inv X pins σ H' s2/\RelV x u/\J.yld i H x H'/\tn (i + 1) s2.heap/\∀ b ∈ fp,H' b=none) E s1) E s
 done:∀ (X:Cx),X.prog=P->X.w=w->Reg X->∀ (i:Nat) (pins:List (Addr × Obj)) (s:Shared) (σ:St) (H:Hp) (E:Value->Shared->Prop),Inv X pins σ H s->(∀ b ∈ fp,FpOk X pins H b)->tn i s.heap->J.stop i H ->
  wpAny (model P w) X.A (pyNext (.ref it)) (fun r s1=>r=none/\Inv X pins σ H s1) E s
 self:∀ (A:Around) (i:Nat) (s:Shared) (Q:Value->Shared->Prop) (E:Value->Shared->Prop),tn i s.heap->Q (.ref it) s->wpAny (model P w) A (pyIter (.ref it)) Q E s
def PIEG (Reg:Cx->Prop) (X:Cx) (pins:List (Addr × Obj)) (σ:St) (tg:Expr) (R:It->Hp->Prop) (itv:Value) (s2:Shared):Prop:=
 ∃ (it:Addr) (fp:List Addr) (tn:Nat->Heap->Prop) (J:It) (H':Hp),itv=.ref it/\Inv X pins σ H' s2/\TurnG Reg X.prog X.w tg J fp it tn/\tn 0 s2.heap/\(∀ b ∈ fp,FpOk X pins H' b)/\R J H'
def PIG (Reg:Cx->Prop) (X:Cx) (tg iter:Expr) (wi:TI):Prop:=
 ∀ (pins:List (Addr × Obj)) (s:Shared) (σ:St) (H:Hp) (R:It->Hp->Prop),Inv X pins σ H s->wi σ H R ->
  wpAny (model X.prog X.w) X.A (eval iter X.env) (fun v s1=>wpAny (model X.prog X.w) X.A (pyIter v) (PIEG Reg X pins σ tg R) X.xe s1) X.xe s
theorem lc_coreG {Reg:Cx->Prop} {X:Cx} {xs:List Str} {ix:List Nat} {scope:Scope} {elt tg iter:Expr} {ifs:List Expr} {pos:Pos} {wi:TI} {g:TG} {tt:TT} {te:TE}
  (S:CompScope X xs ix scope) (hreg:∀ Y:Cx,Y.K=X.K->Y.calm=X.calm->Y.A.handled=X.A.handled->Reg Y) (hi:PIG Reg X tg iter wi)
  (hg:∀ C fp s H,PG (cxC X xs ix scope C fp s H) tg g) (ht:∀ C fp s H,PTs (cxC X xs ix scope C fp s H) ifs tt) (he:∀ C fp s H,PE (cxC X xs ix scope C fp s H) elt te)
  {pins:List (Addr × Obj)} {s:Shared} {σ:St} {H:Hp} {Q:VK} (I:Inv X pins σ H s) (h:tLC xs ix wi g tt te σ H Q) {use:Option (Value->Sem Unit)} {R:Value->Shared->Prop}
  (fin:∀ (acc C:Addr) (H':Hp) (s':Shared) (m:Str->Option Value),Q (.ref acc) H'->s'.heap.Ns C m->(∀ h',Heap.SameBut C s'.heap h'->∀ tk,Inv X pins σ H' { s' with heap:=h',toks:=tk })->(X.s₀.heap.objs.size <= C/\C ≠ X.env.locals/\(∀ x c,X.env.cells.lookup x=some c->c ≠ C)/\(∀ p ∈ X.pn ++ pins,p.1 ≠ C)/\H' C=none)->compPost (model X.prog X.w) X.A X.xe use R (.ref acc) C (.ok .next) s') :
  wpAny (model X.prog X.w) X.A (eval iter X.env) (fun x s₁=>wpAny (model X.prog X.w) X.A (pyIter x) (fun it s₂=>wpAny (model X.prog X.w) X.A (newList []) (fun acc s₃=>
   wpAny (model X.prog X.w) X.A (newFunctionEnv scope X.env.globals (clF X.env scope.names []) [] X.env.qual none .none (some X.env)) (fun cenv s₄=>
    codeAny (model X.prog X.w) X.A (.compStart (.ListComp elt [⟨tg,iter,ifs,0⟩] scope pos) 0 it acc { cenv with scope:=relabel scope X.env }) (compPost (model X.prog X.w) X.A X.xe use R acc cenv.locals) s₄) X.xe s₃) X.xe s₂) X.xe s₁) X.xe s:=by
 refine thn (hi pins s σ H _ I h) fun v s1 h1=>thn h1 fun itv s2 h2=>?_
 obtain ⟨it,fp,tn,J,H2,rfl,I2,T,st2,f2,q⟩:=h2
 refine wpAny_newObj_type ?_
 have I3:Inv X pins σ (upd H2 s2.heap.objs.size (.lst [])) { s2 with heap:=s2.heap.push { cls:=.type "list",data:=.seq ([]:List Value).toArray },toks:=s2.toks }:=I2.lnew (ys:=[]) (its:=[]) .nil (Nat.zero_le _)
 obtain ⟨W,⟨m0,w0⟩,turn⟩:=q s2.heap.objs.size I2.fresh
 have objs2:=T.obj 0 _ st2
 have neacc:∀ b ∈ fp,b ≠ s2.heap.objs.size:=fun b hb z=>by
  obtain ⟨o,ho,_⟩:=objs2 b hb
  exact Nat.lt_irrefl _ (Nat.lt_of_lt_of_eq (Heap.lt_size ho) z.symm)
 generalize hacc:s2.heap.objs.size=acc at *
 generalize hs3:({ s2 with heap:=s2.heap.push { cls:=.type "list",data:=.seq ([]:List Value).toArray } }:Shared)=s3
 have I3:Inv X pins σ (upd H2 acc (.lst [])) s3:=by rw [<- hs3];exact I3
 have k3:∀ b o,s2.heap.get? b=some o->s3.heap.get? b=some o:=fun b o e=>by rw [<- hs3];exact Heap.get?_push_of_some _ e
 have f3:∀ b ∈ fp,FpOk X pins (upd H2 acc (.lst [])) b:=fun b hb=>⟨by rw [upd_ne (neacc b hb)];exact (f2 b hb).1,(f2 b hb).2⟩
 have o3:∀ b ∈ fp,∃ o,s3.heap.get? b=some o:=fun b hb=>let ⟨o,ho,_⟩:=objs2 b hb;⟨o,k3 b o ho⟩
 have st3:tn 0 s3.heap:=T.keep _ _ _ st2 fun b _ o e=>k3 b o e
 refine wpAny_newFunctionEnv S.nocell (by intro y hy;simp at hy) (fun h1 hns1 hsb1=>?_) S.kind
 have keep1:∀ b o,s3.heap.get? b=some o->h1.get? b=some o:=fun b o e=>hsb1.extBut b o (Nat.ne_of_lt (Heap.lt_size e)) (Heap.get?_push_of_some _ e)
 generalize hs4:({ s3 with heap:=h1,toks:=s3.toks + ([]:List (Str × Value)).length }:Shared)=s4
 have I4:Inv (cxC X xs ix scope s3.heap.objs.size fp s3 (upd H2 acc (.lst []))) [] (stC xs ix σ) (upd H2 acc (.lst [])) s4:=block_start S I3 f3 o3 hns1 keep1 hs4.symm
 have st4:tn 0 s4.heap:=T.keep _ _ _ st3 fun b _ o e=>by rw [<- hs4];exact keep1 b o e
 generalize hX':cxC X xs ix scope s3.heap.objs.size fp s3 (upd H2 acc (.lst []))=X' at *
 have hg:=hg s3.heap.objs.size fp s3 (upd H2 acc (.lst []))
 have ht:=ht s3.heap.objs.size fp s3 (upd H2 acc (.lst []))
 have he:=he s3.heap.objs.size fp s3 (upd H2 acc (.lst []))
 rw [hX'] at hg ht he
 have eP:X'.prog=X.prog:=by rw [<- hX'];rfl
 have ew:X'.w=X.w:=by rw [<- hX'];rfl
 have eK:X'.K=X.K:=by rw [<- hX'];rfl
 have eA:X'.A=X.A:=by rw [<- hX'];rfl
 have ec:Reg X':=hreg X' eK (by rw [<- hX'];rfl) (by rw [<- hX'];rfl)
 have ex:X'.xe=fun _ _=>False:=by rw [<- hX'];rfl
 have eenv:X'.env=compEnvC scope (clF X.env scope.names []) s3.heap.objs.size X.env:=by rw [<- hX'];rfl
 have eex:X'.ex=fp:=by rw [<- hX'];rfl
 have efs:X'.fs=frs X.stack:=by rw [<- hX'];rfl
 have epn:X'.pn=[]:=by rw [<- hX'];rfl
 have eH0:X'.H₀=upd H2 acc (.lst []):=by rw [<- hX'];rfl
 have es0:X'.s₀=s3:=by rw [<- hX'];rfl
 have eloc:X'.env.locals=s3.heap.objs.size:=by rw [eenv];rfl
 have stat:∀ {H':Hp},(∀ b ∈ fp,H' b=none)->∀ b ∈ fp,FpOk X' [] H' b:=fun {H'} hn b hb=>by
  refine ⟨hn b hb,?_,?_,.inl (by rw [eex];exact hb),?_,?_⟩
  ·rw [eloc]
   intro z
   obtain ⟨o,ho⟩:=o3 b hb
   exact Nat.lt_irrefl _ (Nat.lt_of_lt_of_eq (Heap.lt_size ho) z.symm)
  ·exact I4.ok.exfs b (by rw [eex];exact hb)
  ·exact (I4.ok.exf b (by rw [eex];exact hb)).2
  ·rw [epn];intro p hp;exact absurd hp (by simp)
 have loop:codeAny (model X.prog X.w) X.A (.compLoop (.ListComp elt [⟨tg,iter,ifs,0⟩] scope pos) 0 (.ref it) (.ref acc) X'.env) (compPost (model X.prog X.w) X.A X.xe use R (.ref acc) s3.heap.objs.size) s4:=by
  refine lc_loop (fun n s'=>∃ i ys τ H',Inv X' [] τ H' s'/\tn i s'.heap/\(∀ b ∈ fp,H' b=none)/\W i n ys τ H') ?_ m0 ⟨0,[],_,_,I4,st4,fun b hb=>(f3 b hb).1,w0⟩
  rintro n s5 ⟨i,ys,τ,H5,I5,st5,fr5,w5⟩
  obtain ⟨ha5,hz5,way⟩:=turn i n ys τ H5 w5
  rcases way with ⟨stop,qn⟩ | ⟨go,N,hN,step⟩
  ·have d:=T.done X' eP ew ec i [] s5 τ H5 (fun _ _=>False) I5 (stat fr5) st5 stop
   rw [eA] at d
   refine thn d fun r s6 hz49=>?_
   obtain ⟨hr,I6⟩:=hz49
   subst hr
   obtain ⟨m,hn6,_⟩:=id I6.loc
   rw [eloc] at hn6
   refine fin acc s3.heap.objs.size H5 s6 m qn hn6 (fun h' hsb tk=>?_) ⟨I3.sz,Ne.symm (Nat.ne_of_lt I3.lt),fun x c e z=>by
    obtain ⟨v,oc,hoc,_⟩:=I3.cell x c e
    exact Nat.lt_irrefl _ (Nat.lt_of_lt_of_eq (Heap.lt_size hoc) z.symm),fun p hp z=>Nat.lt_irrefl _ (Nat.lt_of_lt_of_eq (Heap.lt_size (I3.pin p hp).1) z.symm),by have:=I6.free;rw [eloc] at this;exact this⟩
   have same:∀ b,b ≠ s3.heap.objs.size->h'.get? b=s6.heap.get? b:=fun b hb=>hsb.2 b hb
   have ub:=I6.base
   rw [efs,eex,eH0,es0] at ub
   have ne3:∀ b o,s3.heap.get? b=some o->b ≠ s3.heap.objs.size:=fun b o e=>Nat.ne_of_lt (Heap.lt_size e)
   have u:Un (frs X.stack) fp (upd H2 acc (.lst [])) H5 s3.heap h':=
    ⟨fun b o e n1 n2 n3=>(same b (ne3 b o e)).trans (ub.keep b o e n1 n2 n3),fun b o e n1 n2 n3=>by
      obtain ⟨sl,z⟩:=ub.slot b o e n1 n2 n3
      exact ⟨sl,(same b (ne3 b o e)).trans z⟩,ub.free,fun b o e n3=>by
      obtain ⟨o',z⟩:=ub.there b o e n3
      exact ⟨o',(same b (ne3 b o e)).trans z⟩,ub.tups,ub.frzs,ub.tbls⟩
   have fC:H5 s3.heap.objs.size=none:=by have:=I6.free;rw [eloc] at this;exact this
   have hok:HOk X.prog X.w H5 h':=fun b o e=>by
    have z:=I6.hok b o e
    rw [eP,ew] at z
    refine z.stay (fun c u hc q=>(same c ?_).trans q) (fun _ q=>q) fun _ _ q=>q
    intro zc
    rcases hc with q1 | q1
    ·rw [<- q1,zc,fC] at e;cases e
    ·rw [zc,fC] at q1;cases q1
   have hch:∀ b ∈ fp,(b ∈ X.ex \/ X.s₀.heap.objs.size <= b)/\b ≠ X.env.locals/\(∀ x c,X.env.cells.lookup x=some c->c ≠ b)/\∀ p ∈ X.pn ++ pins,p.1 ≠ b:=fun b hb=>by
    obtain ⟨_,f1,_,g3,g4,g5⟩:=f3 b hb
    exact ⟨g3,f1,g4,g5⟩
   have ho:s6.os=s3.os:=by have:=I6.os;rw [es0] at this;exact this
   exact I3.call' (s':={ s6 with heap:=h',toks:=tk }) (ch:=fp) ho u hok I6.bare hch
  ·have d:=T.item X' eP ew ec i [] s5 τ H5 (fun _ _=>False) I5 (stat fr5) st5 go
   rw [eA] at d
   refine thn d fun r s6 hz50=>?_
   obtain ⟨u,hr,h6⟩:=hz50
   subst hr
   refine thn h6 fun _ s7 hz51=>?_
   obtain ⟨x,H7,I7,r7,y7,st7,fr7⟩:=hz51
   have I7':=I7.pinned (stat fr7) (T.obj _ _ st7)
   have dg:=hg _ s7 τ H7 x u _ I7' r7 (step x H7 y7)
   rw [eP,ew,eA,ex] at dg
   refine thn dg fun _ s8 hz52=>?_
   obtain ⟨τ8,H8,I8,q8⟩:=hz52
   have dt:=ht _ s8 τ8 H8 _ I8 q8
   rw [eP,ew,eA,ex] at dt
   refine thn dt fun ok s9 hz53=>?_
   obtain ⟨H9,I9,q9⟩:=hz53
   have again:∀ {τ':St} {H':Hp} {s':Shared},Inv X' ([] ++ pinsAt fp s7.heap) τ' H' s'->Inv X' [] τ' H' s'/\tn (i + 1) s'.heap/\∀ b ∈ fp,H' b=none:=fun {τ' H' s'} Ie=>by
    refine ⟨Ie.unpinned,T.keep _ _ _ st7 fun b hb o e=>(Ie.pin (b,o) (List.mem_append_right _ (List.mem_append_right _ (mem_pinsAt hb e)))).1,fun b hb=>?_⟩
    obtain ⟨o,e,_⟩:=T.obj _ _ st7 b hb
    exact (Ie.pin (b,o) (List.mem_append_right _ (List.mem_append_right _ (mem_pinsAt hb e)))).2.1
   cases ok with
   | false=>
    rw [if_neg Bool.false_ne_true] at q9 ⊢
    obtain ⟨m',hm,w9⟩:=hN _ _ _ q9
    obtain ⟨z1,z2,z3⟩:=again I9
    exact ⟨m',hm,i + 1,ys,τ8,H9,z1,z2,z3,w9⟩
   | true=>
    rw [if_pos rfl] at q9 ⊢
    have de:=he _ s9 τ8 H9 _ I9 q9
    rw [eP,ew,eA,ex] at de
    refine thn de fun yv s10 hz54=>?_
    obtain ⟨y,H10,I10,r10,ha10,n10⟩:=hz54
    obtain ⟨m',hm,w10⟩:=hN _ _ _ n10
    have dm:=mt_append (X:=X') _ s10 τ8 H10 (.ref acc) [y] (.ref acc) [yv] (fun v H'=>v=.non/\H'=upd H10 acc (.lst (ys ++ [y]))) I10 rfl (.cons r10 .nil) ⟨acc,ys,y,rfl,rfl,ha10,hz5,rfl,rfl⟩
    rw [eP,ew,eA,ex] at dm
    refine thn dm fun _ s11 hz55=>?_
    obtain ⟨_,H11,I11,_,_,e11⟩:=hz55
    subst e11
    obtain ⟨z1,z2,z3⟩:=again I11
    exact ⟨m',hm,i + 1,ys ++ [y],τ8,_,z1,z2,z3,w10⟩
 have e4:({ newEnv scope s3.heap.objs.size X.env.globals (clF X.env scope.names []) X.env.qual none .none (some X.env) builtinsNs with scope:=relabel scope X.env }:Env)=X'.env:=by rw [eenv];rfl
 rw [eenv] at loop
 have self:=T.self X.A 0 s4 (fun it' s'=>codeAny (model X.prog X.w) X.A (.compLoop (.ListComp elt [⟨tg,iter,ifs,0⟩] scope pos) 0 it' (.ref acc) (compEnvC scope (clF X.env scope.names []) s3.heap.objs.size X.env)) (compPost (model X.prog X.w) X.A X.xe use R (.ref acc) s3.heap.objs.size) s')
  (notedBy (model X.prog X.w) X.A (compEnvC scope (clF X.env scope.names []) s3.heap.objs.size X.env) fun x s'=>compPost (model X.prog X.w) X.A X.xe use R (.ref acc) s3.heap.objs.size (.error x) s') st4 loop
 exact codeAny_compStart_list loop self
theorem lc_core {X:Cx} {xs:List Str} {ix:List Nat} {scope:Scope} {elt tg iter:Expr} {ifs:List Expr} {pos:Pos} {wi:TI} {g:TG} {tt:TT} {te:TE}
  (S:CompScope X xs ix scope) (hc:X.calm=true) (hi:PI X tg iter wi)
  (hg:∀ C fp s H,PG (cxC X xs ix scope C fp s H) tg g) (ht:∀ C fp s H,PTs (cxC X xs ix scope C fp s H) ifs tt) (he:∀ C fp s H,PE (cxC X xs ix scope C fp s H) elt te)
  {pins:List (Addr × Obj)} {s:Shared} {σ:St} {H:Hp} {Q:VK} (I:Inv X pins σ H s) (h:tLC xs ix wi g tt te σ H Q) {use:Option (Value->Sem Unit)} {R:Value->Shared->Prop}
  (fin:∀ (acc C:Addr) (H':Hp) (s':Shared) (m:Str->Option Value),Q (.ref acc) H'->s'.heap.Ns C m->(∀ h',Heap.SameBut C s'.heap h'->∀ tk,Inv X pins σ H' { s' with heap:=h',toks:=tk })->(X.s₀.heap.objs.size <= C/\C ≠ X.env.locals/\(∀ x c,X.env.cells.lookup x=some c->c ≠ C)/\(∀ p ∈ X.pn ++ pins,p.1 ≠ C)/\H' C=none)->compPost (model X.prog X.w) X.A X.xe use R (.ref acc) C (.ok .next) s') :
  wpAny (model X.prog X.w) X.A (eval iter X.env) (fun x s₁=>wpAny (model X.prog X.w) X.A (pyIter x) (fun it s₂=>wpAny (model X.prog X.w) X.A (newList []) (fun acc s₃=>
   wpAny (model X.prog X.w) X.A (newFunctionEnv scope X.env.globals (clF X.env scope.names []) [] X.env.qual none .none (some X.env)) (fun cenv s₄=>
    codeAny (model X.prog X.w) X.A (.compStart (.ListComp elt [⟨tg,iter,ifs,0⟩] scope pos) 0 it acc { cenv with scope:=relabel scope X.env }) (compPost (model X.prog X.w) X.A X.xe use R acc cenv.locals) s₄) X.xe s₃) X.xe s₂) X.xe s₁) X.xe s:=
 lc_coreG (Reg:=fun Y=>Y.K=X.K/\Y.calm=true) S (fun Y k c _=>⟨k,c.trans hc⟩)
  (fun pins s σ H R I q=>thn (hi pins s σ H R I q) fun v s1 h1=>thn h1 fun itv s2 h2=>by
   obtain ⟨it,fp,tn,J,H',e,I',T,r⟩:=h2
   exact ⟨it,fp,tn,J,H',e,I',⟨T.mem,T.obj,T.keep,fun Y e1 e2 r=>T.item Y e1 e2 r.1 r.2,fun Y e1 e2 r=>T.done Y e1 e2 r.1 r.2,T.self⟩,r⟩) hg ht he I h fin
theorem pe_lc {X:Cx} {xs:List Str} {ix:List Nat} {scope:Scope} {elt tg iter:Expr} {ifs:List Expr} {pos:Pos} {wi:TI} {g:TG} {tt:TT} {te:TE}
  (S:CompScope X xs ix scope) (hc:X.calm=true) (hi:PI X tg iter wi)
  (hg:∀ C fp s H,PG (cxC X xs ix scope C fp s H) tg g) (ht:∀ C fp s H,PTs (cxC X xs ix scope C fp s H) ifs tt) (he:∀ C fp s H,PE (cxC X xs ix scope C fp s H) elt te)
  (hs:∀ x,foldedSetIterable iter X.env x=pure x:=by intro _;rfl) :
  PE X (.ListComp elt [⟨tg,iter,ifs,0⟩] scope pos) (tLC xs ix wi g tt te):=by
 intro pins s σ H Q I h
 have hcl:∀ n,(n,NameKind.free) ∈ scope.names->(X.env.cells.lookup n).isSome=true:=fun n hn=>by
  obtain ⟨c,e⟩:=I.ok.has n (S.fre n hn)
  rw [e];rfl
 rw [eval_ListComp]
 refine wpAny_comprehension_free (use:=none) rfl hs (closureFor_clF hcl) S.kind S.loc ?_
 refine lc_core S hc hi hg ht he I h fun acc C H' s' m q hn k _=>?_
 exact ⟨m,hn,fun h' hsb=>⟨.ref acc,H',k h' hsb s'.toks,rfl,q⟩⟩
end L2
namespace L2
open PySem PySem.Spec PyProof.Rows
def Its (x:Str):It:=⟨fun i _=>i < x.cps.size,fun i H v H'=>H'=H/\∃ c,x.cps[i]?=some c/\v=.str ⟨#[c]⟩,fun i _=>i=x.cps.size⟩
theorem turn_str {P:Program} {w:World} {K:PySem.W.Frag} {tg:Expr} (it:Addr) (x:Str) (t:Tok) (ty:String)
  (hty:["enumerate","zip","dict_itemiterator","dict_reverseitemiterator","odict_iterator","itertools.zip_longest","itertools.pairwise"].contains ty=false)
  (W:∀ A:Around,A.handled=none->Walks P w A it [it] [it] x.cps.size (SignAt x) (fun i h=>h.IsStrIter it ty x t i))
  (self:∀ (A:Around) (i:Nat) (s:Shared) (Q:Value->Shared->Prop) (E:Value->Shared->Prop),s.heap.IsStrIter it ty x t i->Q (.ref it) s->wpAny (model P w) A (pyIter (.ref it)) Q E s) :
  Turn P w K tg (Its x) [it] it (fun i h=>h.IsStrIter it ty x t i) where
 mem:=by simp
 obj:=fun i h st b hb=>by
  have e:b=it:=by simpa using hb
  subst e
  obtain ⟨o,e,c,d⟩:=st
  exact ⟨o,e,fun v z=>by rw [d] at z;cases z⟩
 keep:=fun i h h' st k=>let ⟨o,e,r⟩:=st;⟨o,k it (by simp) o e,r⟩
 item:=by
  intro X hP hw hK hc i pins s σ H E I hf st hg
  subst hP hw hK
  obtain ⟨f0,f1,f2,f3,f4,f5⟩:=hf it (by simp)
  refine (W X.A (I.ok.hd hc)).item i s _ _ hg st fun v h' tk hv st' kk=>?_
  obtain ⟨c,u,hcx,rfl⟩:=hv
  have I1:Inv X pins σ H { s with heap:=h',toks:=tk }:=I.turned (fun b o hb e=>kk b o (by simpa using hb) e) f0 f1 f3 f4 f5
  obtain ⟨o,e,c',d⟩:=id st'
  exact ⟨_,rfl,go_of (s:={ s with heap:=h',toks:=tk }) e c' d hty ⟨.str ⟨#[c]⟩,H,I1,⟨u,rfl⟩,⟨rfl,c,hcx,rfl⟩,st',fun b hb=>(hf b hb).1⟩⟩
 done:=by
  intro X hP hw hK hc i pins s σ H E I hf st hg
  subst hP hw hK
  obtain ⟨f0,f1,f2,f3,f4,f5⟩:=hf it (by simp)
  have hg':i=x.cps.size:=hg
  subst hg'
  exact (W X.A (I.ok.hd hc)).done s _ _ st fun h' tk kk=>⟨rfl,I.turned (fun b o hb e=>kk b o (by simpa using hb) e) f0 f1 f3 f4 f5⟩
 self:=self
section
variable {X:Cx} {tg:Expr}
def iStr (tl:TE):TI:=fun σ H R=>tl σ H fun x H1=>∃ z,x=.str z/\R (Its z) H1
theorem pi_str {l:Expr} {tl:TE} (hl:PE X l tl):PI X tg l (iStr tl):=by
 intro pins s σ H R I h
 refine thn (hl pins s σ H _ I h) fun v s1 hz56=>?_
 obtain ⟨x,H1,I1,r1,q1⟩:=hz56
 obtain ⟨z,e,q⟩:=q1
 subst e
 obtain ⟨t,rfl⟩:=(show ∃ t,v=Value.str z t from r1)
 have fin:∀ (o:Obj) (ty:String),o.cls=.type ty->o.data=.fields #[.str z t,.int 0 0] ->
   ["enumerate","zip","dict_itemiterator","dict_reverseitemiterator","odict_iterator","itertools.zip_longest","itertools.pairwise"].contains ty=false ->
   o.isFreed=false ->
   (∀ A:Around,A.handled=none->Walks X.prog X.w A s1.heap.objs.size [s1.heap.objs.size] [s1.heap.objs.size] z.cps.size (SignAt z) (fun i h=>h.IsStrIter s1.heap.objs.size ty z t i)) ->
   (∀ (A:Around) (i:Nat) (s:Shared) (Q:Value->Shared->Prop) (E:Value->Shared->Prop),s.heap.IsStrIter s1.heap.objs.size ty z t i->Q (.ref s1.heap.objs.size) s->wpAny (model X.prog X.w) A (pyIter (.ref s1.heap.objs.size)) Q E s) ->
   PIE X pins σ tg R (.ref s1.heap.objs.size) { s1 with heap:=s1.heap.push o }:=fun o ty h1 h2 h3 hfr W self=>by
  refine ⟨s1.heap.objs.size,[s1.heap.objs.size],_,_,H1,rfl,I1.kept (t':=s1.toks) fun b o e=>Heap.get?_push_of_some _ e,turn_str _ z t ty h3 W self,⟨o,Heap.get?_push_size _ hfr,h1,h2⟩,fun b hb=>?_,q⟩
  have e:b=s1.heap.objs.size:=by simpa using hb
  subst e
  exact I1.fpOk (Nat.le_refl _) (I1.hok.fresh (Nat.le_refl _))
 cases ha:z.cps.all (· < 128)
 ·exact wpAny_pyIter_wide ha (fin _ "str_iterator" rfl rfl (by decide) rfl (fun A hA=>Walks.strWide hA _ z t) fun _ _ _ _ _ st hQ=>wpAny_pyIter_striter_wide st hQ)
 ·exact wpAny_pyIter_ascii ha (fin _ "str_ascii_iterator" rfl rfl (by decide) rfl (fun A hA=>Walks.strAscii hA _ z t) fun _ _ _ _ _ st hQ=>wpAny_pyIter_striter_ascii st hQ)
theorem in1_handled {A:Around} (h:A.handled=none):A.in1.handled=none:=h
theorem bools_get {ys:List Bool} {its:List Value} (r:Vals (ys.map V.bl) its) {i:Nat} {v:Value} (h:its[i]?=some v):∃ b,ys[i]?=some b/\v=.bool b:=by
 have hl:=r.length
 rw [List.length_map] at hl
 have hi:i < its.length:=(List.getElem?_eq_some_iff.mp h).1
 obtain ⟨u,e1,e2⟩:=r.get (i:=i) (x:=V.bl (ys[i]'(by omega))) (by rw [List.getElem?_map,List.getElem?_eq_getElem (by omega)];rfl)
 rw [h] at e1
 cases e1
 exact ⟨_,List.getElem?_eq_getElem (by omega),e2⟩
theorem range_all (ys:List Bool):(List.range ys.length).all (fun i=>ys.getD i false)=ys.all id:=by
 have e:ys=(List.range ys.length).map (fun i=>ys.getD i false):=by
  apply List.ext_getElem (by simp)
  intro i h1 h2
  simp [List.getD_eq_getElem?_getD,List.getElem?_eq_getElem h1]
 conv=>rhs;rw [e]
 rw [List.all_map];rfl
theorem call_all (hc:X.calm=true):CallR X (.builtin "all") (fun xs H Q=>∃ (p:Addr) (ys:List Bool),xs=[.ref p]/\SqL X.K H p (ys.map V.bl)/\Q (.bl (ys.all id)) H):=by
 intro pins s σ H xs us Q I r h
 obtain ⟨p,ys,rfl,hq,q⟩:=h
 obtain ⟨u,rfl,ru⟩:=r.one
 cases ru
 obtain ⟨its,rv,pl,hz⟩:=I.list hq
 have hl:=rv.length
 rw [List.length_map] at hl
 refine call_all_walk (wpAny_pyIter_list pl.isList ?_)
 have hp:p < s.heap.objs.size:=by obtain ⟨o,ho,_⟩:=pl.isList;exact Heap.lt_size ho
 refine ⟨s.heap.objs.size,_,_,_,_,_,fun i=>ys.getD i false,rfl,Walks.list (in1_handled (I.ok.hd hc)) _ p (Nat.ne_of_lt hp) its.toArray,⟨⟨_,Heap.get?_push_size _ rfl,rfl,rfl⟩,?_⟩,?_,fun h' tk kk=>?_⟩
 ·obtain ⟨o,ho,r⟩:=pl.isList
  exact ⟨o,Heap.get?_push_of_some _ ho,r⟩
 ·intro i v s' Q' E' hP hQ
  obtain ⟨b,e1,rfl⟩:=bools_get rv (by simpa using hP)
  refine wpAny_truthy_bool ?_
  have e2:ys.getD i false=b:=by rw [List.getD_eq_getElem?_getD,e1];rfl
  rw [<- e2];exact hQ
 ·refine ⟨.bl (ys.all id),H,I.kept fun b o e=>kk b o ?_ (Heap.get?_push_of_some _ e),?_,q⟩
  ·intro z;have z':b=s.heap.objs.size:=by simpa using z
   exact Nat.ne_of_lt (Heap.lt_size e) z'
  ·have e3:its.toArray.size=ys.length:=by simp;omega
   rw [e3,range_all];rfl
theorem call_isinst:CallR X (.builtin "isinstance") (fun xs H Q=>∃ x t T b,xs=[x,.ty T]/\TyOf X.K H x t/\PySem.W.kitOne X.K t (.type T)=some b/\Q (.bl b) H):=by
 intro pins s σ H xs us Q I r h
 obtain ⟨x,t,T,b,rfl,ty,e,q⟩:=h
 obtain ⟨u,v,rfl,ru,rv⟩:=r.two
 cases rv
 exact isinst_ok I ru ty e fun tk=>⟨.bl b,H,I.tok tk,rfl,q⟩
def rSlS:V->Option Int->Option Int->Hp->VK->Prop:=fun x lo hi H Q=>∃ z,x=.str z/\z.length <= sizeLine/\Q (.str (Txt.slice z lo hi)) H
theorem sl_str:SlR X rSlS:=by
 intro pins s σ H x v vl vu lo hi sl Q I rx hs pl pu h
 obtain ⟨z,rfl,hz,q⟩:=h
 obtain ⟨t,rfl⟩:=(show ∃ t,v=Value.str z t from rx)
 refine ⟨"str",_,F.slot_str_getitem.lookup,typeIs_str _ _ _,?_⟩
 have key:∀ (l u:Option (Int × Tok)),vl=partValue l->vu=partValue u->lo=l.map (·.1)->hi=u.map (·.1) ->
   wpAny (model X.prog X.w) X.A (getItem (.str z t) (.ref sl)) (EP X pins σ Q) X.xe s:=by
  intro l u e1 e2 e3 e4
  subst e1 e2
  refine wpAny_getItem_str_slice (l:=l) (u:=u) (st:=none) hs rfl ?_
  unfold sliceMade
  have ee:Txt.slice z lo hi=if (((none:Option (Int × Tok)).map (·.1)).getD 1 == 1 && (slicePicked z l u none).length == z.length)=true then z else ⟨((slicePicked z l u none).filterMap (z.cps[·]?)).toArray⟩:=by
   rw [e3,e4];rfl
  split
  ·rename_i c
   rw [if_pos c] at ee
   rw [ee] at q
   exact ⟨.str z,H,I,⟨t,rfl⟩,q⟩
  ·rename_i c
   rw [if_neg c] at ee
   rw [ee] at q
   have hle:=Txt.slice_le z lo hi
   rw [ee] at hle
   exact ⟨Nat.le_trans hle hz,.str _,H,I.tok _,⟨_,rfl⟩,q⟩
 cases pl with
 | none=>
  cases pu with
  | none=>exact key none none rfl rfl rfl rfl
  | int j tj=>exact key none (some (j,tj)) rfl rfl rfl rfl
 | int i ti=>
  cases pu with
  | none=>exact key (some (i,ti)) none rfl rfl rfl rfl
  | int j tj=>exact key (some (i,ti)) (some (j,tj)) rfl rfl rfl rfl
theorem strs_of:∀ {ys:List Str} {us:List Value},Vals (ys.map V.str) us->StrsAre us ys
 | [],_,.nil=>.nil
 | y :: ys,_,.cons r t=>by
  obtain ⟨k,rfl⟩:=r
  exact .cons y k (strs_of t)
theorem mt_join:MtR X "str.join" (fun x xs H Q=>∃ (z:Str) (p:Addr) (ys:List Str),x=.str z/\xs=[.ref p]/\SqL X.K H p (ys.map V.str)/\(ys.map (·.length)).sum + ys.length * z.length <= 16777216/\Q (.str (Txt.join z ys)) H):=by
 intro pins s σ H x xs v us Q I rx rs h
 obtain ⟨z,p,ys,rfl,rfl,hq,hz,q⟩:=h
 obtain ⟨t,rfl⟩:=(show ∃ t,v=Value.str z t from rx)
 obtain ⟨u,rfl,ru⟩:=rs.one
 cases ru
 obtain ⟨its,rv,pl,hl⟩:=I.list hq
 exact join_list pl.isList (strs_of (by simpa using rv)) hz fun t' k=>⟨.str _,H,I.tok k,⟨t',rfl⟩,q⟩
theorem op_fdivB:OpR X (binaryOp .FloorDiv) (rI (fun _ j=>0 < j/\j < 2 ^ 62) fun i j=>.int (i / j)):=opI fun i j _ _ _ _ _ hc q=>by
 have hp:(0:Int) < j:=hc.1
 have hq:j < 2 ^ 62:=hc.2
 have hlog:j.natAbs.log2 < 9000:=by
  have h1:j.natAbs ≠ 0:=by omega
  have h2:j.natAbs.log2 < 62:=(Nat.log2_lt h1).mpr (by omega)
  omega
 exact floordiv_int (by omega) (by rw [Int.fdiv_eq_ediv_of_nonneg i (by omega)];exact q) (.inl (PyProof.noPylong_of_log2 hlog))
end
end L2
namespace L2
open PySem PySem.Spec PyProof.Rows
structure FunG (K:PySem.W.Frag) (mg:Str->Option Value) (x:Str) (st:Stmt) (ps:List Str):Prop where
 ex:∃ (f:Addr) (fd:FuncData),Fun K x x st f fd/\mg x=some (.ref f)/\Binds K fd ps []
structure Cal (P:Program) (w:World) (K:PySem.W.Frag) (mg:Str->Option Value) (base:Heap) (CX:CXT) (k:Nat) (x:Str) (ps:List Str) (sp:Sp):Prop where
 ex:∃ (f:Addr) (fd:FuncData),FnOk P w K mg base CX k f fd ps sp/\mg x=some (.ref f)/\PySem.W.keepIn K (.ref f)=true/\Binds K fd ps []
section
variable {P:Program} {w:World} {K:PySem.W.Frag} {mg:Str->Option Value} {base:Heap}
theorem FunG.ok {x:Str} {st:Stmt} {N ps:List Str} {k:Nat} {sp:Sp} (G:FunG K mg x st ps) (S:FnScope N ps (defScope st)) (len:∀ vs H Q E,sp vs H Q E->vs.length=ps.length)
  (hbody:∀ (f:Addr) (cdv:Value) (A:Around) (outer:List Env) (s:Shared) (H:Hp) (vs:List V) (Q:VK) (E:XK),Room k (A.deeper (envOfC x (defScope st) s.heap.objs.size f cdv))->sp vs H Q E ->
   ∃ t,PSs (cxOf CX0 P w K mg base N x (defScope st) f cdv A outer s H E).nox (defBody st) t/\t { nx:=fun _ H'=>Q .non H',rt:=Q } (start N vs) H):Cal P w K mg base CX0 (k + 1) x ps sp:=by
 obtain ⟨f,fd,F,hm,hb⟩:=G.ex
 exact ⟨f,fd,F.ok S len fun cdv A outer s H vs Q E hr h=>hbody f cdv A outer s H vs Q E hr h,hm,F.kp,hb⟩
theorem funG_mk {h:Heap} {x:Str} {st:Stmt} {f:Addr} {oc:Value} {od an:Option Addr} {osl:Array (Option Value)} {kV doc pm cdv ct:Value} {ps:List Str} (X:K.In h) (G:h.Ns mainGlobals mg)
  (a:PySem.W.nsIn K mainGlobals x=some (some (.ref f)))
  (l:K.lookup f=some ⟨oc,od,.func (PySem.W.fnOf x x (defArgs st) (defBody st) (defScope st) .none kV doc pm an cdv ct),osl⟩) (c:PySem.W.codeIn K cdv x=true) (k:PySem.W.keepIn K (.ref f)=true)
  (hb:∀ (kV doc pm:Value) (an:Option Addr) (cdv ct:Value) (us:List Value),us.length=ps.length->bindArgs (PySem.W.fnOf x x (defArgs st) (defBody st) (defScope st) .none kV doc pm an cdv ct) ⟨us,[]⟩=pure (ps.zip us)):FunG K mg x st ps:=
 ⟨f,_,fun_mk l c k,PySem.W.mg_of X G a,(fun_mk l c k).binds hb⟩
end
section
variable {X:Cx} {CX:CXT} {k:Nat} {ps:List Str} {sp:Sp} {E:XK} {x:Str} {p pos:Pos} {e:Expr} {es:List Expr} {t:TA}
theorem pe_cal (C:Cal X.prog X.w X.K X.mg X.base CX0 k x ps sp) (hr:Room k X.A) (ha:PA X (e :: es) t) (hg:Gl X x:=by rfl)
  (hdb:(x == ("__debug__" : Str))=false:=by decide) (he:starEach (e :: es) X.env=(false,eval e X.env) :: starEach es X.env:=by rfl) (hpl:(backTo pos (starEach es X.env)).any (·.1)=false:=by rfl) :
  PE X (.Call (.Name x p) (e :: es) [] pos) (tCall sp [] E0 t):=
 let ⟨_,_,F,hm,hk,hb⟩:=C.ex
 pe_call F hr hg hm hk hb .nil pass0 ha hdb he hpl
structure Blt (mg:Str->Option Value) (x:Str):Prop where
 no:mg x=none
theorem pe_blt {id:String} {r:List V->Hp->VK->Prop} (hc:CallR X (.builtin id) r) (b:Blt X.mg x) (hv:bootBuiltins x=some (.builtin id)) (ha:PA X (e :: es) t) (hg:Gl X x:=by rfl) (hn:x ≠ "__name__":=by decide) (hdb:(x == ("__debug__" : Str))=false:=by decide)
  (he:starEach (e :: es) X.env=(false,eval e X.env) :: starEach es X.env:=by rfl) (hpl:(backTo pos (starEach es X.env)).any (·.1)=false:=by rfl) :
  PE X (.Call (.Name x p) (e :: es) [] pos) (tCB r t):=pe_callB hc hg b.no hv ha hn hdb he hpl
theorem pe_ty {T:String} (b:Blt X.mg x) (hv:bootBuiltins x=some (.type T)) (hg:Gl X x:=by rfl) (hn:x ≠ "__name__":=by decide) (hd:(x == ("__debug__" : Str))=false:=by decide):PE X (.Name x pos) (tC (.ty T)):=
 pe_bltn hg b.no hv rfl hn hd
end
def Keep (S:List Addr) (H H':Hp):Prop:=∀ b o,b ∉ S->H b=some o->H' b=some o
theorem Keep.refl {S:List Addr} (H:Hp):Keep S H H:=fun _ _ _ h=>h
theorem Keep.trans {S:List Addr} {H H1 H2:Hp} (a:Keep S H H1) (b:Keep S H1 H2):Keep S H H2:=fun c o n h=>b c o n (a c o n h)
theorem Keep.mono {S S':List Addr} {H H1:Hp} (a:Keep S H H1) (h:∀ b ∈ S,b ∈ S'):Keep S' H H1:=fun c o n q=>a c o (fun z=>n (h c z)) q
theorem Keep.new {S:List Addr} {H:Hp} {p:Addr} {o:HO} (h:H p=none):Keep S H (upd H p o):=fun b u _ q=>by rw [upd_ne (ne_of_none q h)];exact q
theorem Keep.at {S:List Addr} {H:Hp} {p:Addr} {o:HO} (h:p ∈ S):Keep S H (upd H p o):=fun b u n q=>by
 rw [upd_ne (fun z=>n (by rw [z];exact h))];exact q
theorem Keep.none {S:List Addr} {H H':Hp} (k:Keep S H H') {l:Addr} (n:l ∉ S) (h:H' l=Option.none):H l=Option.none:=by
 cases q:H l with
 | none=>rfl
 | some o=>rw [k l o n q] at h;cases h
theorem lc_by {J:It} {xs:List Str} {ix:List Nat} {g:TG} {tt:TT} {te:TE} {n:Nat} {σ:St} {H1:Hp} {Q:VK} {acc:Addr} (hn:n < sizeLine) (item:Nat->V) (Pv:Nat->List V->St->Hp->Prop)
  (h0:Pv 0 [] (stC xs ix σ) (upd H1 acc (.lst [])))
  (hacc:∀ i ys τ H,Pv i ys τ H->H acc=some (.lst ys)/\ys.length <= i)
  (hgo:∀ i ys τ H,i < n->Pv i ys τ H->J.go i H) (hyl:∀ i ys τ H x H',i < n->Pv i ys τ H->J.yld i H x H'->H'=H/\x=item i) (hst:∀ ys τ H,Pv n ys τ H->J.stop n H)
  (hs:∀ i ys τ H,i < n->Pv i ys τ H->g (item i) τ H fun τ2 H2=>tt τ2 H2 fun b H3=>
   if b=true then te τ2 H3 fun y H4=>H4 acc=some (.lst ys)/\Pv (i + 1) (ys ++ [y]) τ2 (upd H4 acc (.lst (ys ++ [y]))) else Pv (i + 1) ys τ2 H3)
  (hd:∀ ys τ H,Pv n ys τ H->Q (.ref acc) H) :
  LCW J xs ix g tt te σ H1 acc Q:=by
 refine ⟨fun i m ys τ H=>m=n - i/\i <= n/\Pv i ys τ H,⟨n,by simp,Nat.zero_le _,h0⟩,?_⟩
 rintro i m ys τ H ⟨rfl,hi,p⟩
 obtain ⟨a1,a2⟩:=hacc i ys τ H p
 refine ⟨a1,by omega,?_⟩
 by_cases hlt:i < n
 ·refine .inr ⟨hgo i ys τ H hlt p,Pv (i + 1),fun ys' τ' H' p'=>⟨n - (i + 1),by omega,rfl,hlt,p'⟩,fun x H' y=>?_⟩
  obtain ⟨rfl,rfl⟩:=hyl i ys τ H x H' hlt p y
  exact hs i ys τ _ hlt p
 ·have e:i=n:=by omega
  subst e
  exact .inl ⟨hst ys τ H p,hd ys τ H p⟩
theorem lc_range {xs:List Str} {ix:List Nat} {g:TG} {tt:TT} {te:TE} {lo:Int} {n:Nat} {σ:St} {H1:Hp} {Q:VK} {acc:Addr} (hn:n < sizeLine) (Pv:Nat->List V->St->Hp->Prop)
  (h0:Pv 0 [] (stC xs ix σ) (upd H1 acc (.lst [])))
  (hacc:∀ i ys τ H,Pv i ys τ H->H acc=some (.lst ys)/\ys.length <= i)
  (hs:∀ i ys τ H,i < n->Pv i ys τ H->g (.int (lo + i)) τ H fun τ2 H2=>tt τ2 H2 fun b H3=>
   if b=true then te τ2 H3 fun y H4=>H4 acc=some (.lst ys)/\Pv (i + 1) (ys ++ [y]) τ2 (upd H4 acc (.lst (ys ++ [y]))) else Pv (i + 1) ys τ2 H3)
  (hd:∀ ys τ H,Pv n ys τ H->Q (.ref acc) H) :
  LCW (Itr lo n) xs ix g tt te σ H1 acc Q:=
 lc_by hn (fun i=>.int (lo + i)) Pv h0 hacc (fun i _ _ _ h _=>h) (fun i _ _ _ _ _ _ _ h=>h) (fun _ _ _ _=>Nat.le_refl n) hs hd
theorem lc_str {xs:List Str} {ix:List Nat} {g:TG} {tt:TT} {te:TE} {z:Str} {σ:St} {H1:Hp} {Q:VK} {acc:Addr} (hn:z.cps.size < sizeLine) (Pv:Nat->List V->St->Hp->Prop)
  (h0:Pv 0 [] (stC xs ix σ) (upd H1 acc (.lst [])))
  (hacc:∀ i ys τ H,Pv i ys τ H->H acc=some (.lst ys)/\ys.length <= i)
  (hs:∀ i ys τ H,i < z.cps.size->Pv i ys τ H->g (.str ⟨#[z.cps.getD i 0]⟩) τ H fun τ2 H2=>tt τ2 H2 fun b H3=>
   if b=true then te τ2 H3 fun y H4=>H4 acc=some (.lst ys)/\Pv (i + 1) (ys ++ [y]) τ2 (upd H4 acc (.lst (ys ++ [y]))) else Pv (i + 1) ys τ2 H3)
  (hd:∀ ys τ H,Pv z.cps.size ys τ H->Q (.ref acc) H) :
  LCW (Its z) xs ix g tt te σ H1 acc Q:=
 lc_by hn (fun i=>.str ⟨#[z.cps.getD i 0]⟩) Pv h0 hacc (fun i _ _ _ h _=>h) (fun i _ _ _ x H' _ _ h=>⟨h.1,by
  obtain ⟨_,c,e,ex⟩:=h
  rw [ex,show z.cps.getD i 0=c by rw [Array.getD_eq_getD_getElem?,e];rfl]⟩) (fun _ _ _ _=>rfl) hs hd
theorem lc_list {K:PySem.W.Frag} {a:Addr} {its:List V} {xs:List Str} {ix:List Nat} {g:TG} {tt:TT} {te:TE} {σ:St} {H1:Hp} {Q:VK} {acc:Addr} (hn:its.length < sizeLine) (Pv:Nat->List V->St->Hp->Prop)
  (h0:Pv 0 [] (stC xs ix σ) (upd H1 acc (.lst [])))
  (hacc:∀ i ys τ H,Pv i ys τ H->H acc=some (.lst ys)/\ys.length <= i/\SqL K H a its)
  (hs:∀ i ys τ H x,its[i]?=some x->Pv i ys τ H->g x τ H fun τ2 H2=>tt τ2 H2 fun b H3=>
   if b=true then te τ2 H3 fun y H4=>H4 acc=some (.lst ys)/\Pv (i + 1) (ys ++ [y]) τ2 (upd H4 acc (.lst (ys ++ [y]))) else Pv (i + 1) ys τ2 H3)
  (hd:∀ ys τ H,Pv its.length ys τ H->Q (.ref acc) H) :
  LCW (Itl K a) xs ix g tt te σ H1 acc Q:=by
 refine lc_by hn (fun i=>its.getD i .non) Pv h0 (fun i ys τ H p=>⟨(hacc i ys τ H p).1,(hacc i ys τ H p).2.1⟩) (fun i ys τ H h p=>⟨its,its[i],(hacc i ys τ H p).2.2,by simp [h]⟩)
  (fun i ys τ H x H' h p y=>⟨y.1,?_⟩) (fun ys τ H p=>⟨its,(hacc _ ys τ H p).2.2,Nat.le_refl _⟩) (fun i ys τ H h p=>hs i ys τ H _ (by simp [List.getD_eq_getElem?_getD,h]) p) hd
 have e:=y.2 its (hacc i ys τ H p).2.2
 rw [List.getD_eq_getElem?_getD,e];rfl
theorem yes_in {g:TG} {te:TE} {x:V} {τ:St} {H:Hp} {R:St->Hp->VK} {N:St->Hp->Prop} (h:g x τ H fun τ2 H2=>te τ2 H2 (R τ2 H2)) :
  g x τ H fun τ2 H2=>tYes τ2 H2 fun b H3=>if b=true then te τ2 H3 (R τ2 H3) else N τ2 H3:=by
 have e:(fun τ2 H2=>tYes τ2 H2 fun b H3=>if b=true then te τ2 H3 (R τ2 H3) else N τ2 H3)=fun τ2 H2=>te τ2 H2 (R τ2 H2):=by
  funext τ2 H2
  show (if true=true then te τ2 H2 (R τ2 H2) else N τ2 H2)=_
  rw [if_pos rfl]
 rw [e];exact h
theorem lc_range0 {xs:List Str} {ix:List Nat} {g:TG} {te:TE} {lo:Int} {n:Nat} {σ:St} {H1:Hp} {Q:VK} {acc:Addr} (hn:n < sizeLine) (Pv:Nat->List V->St->Hp->Prop)
  (h0:Pv 0 [] (stC xs ix σ) (upd H1 acc (.lst [])))
  (hacc:∀ i ys τ H,Pv i ys τ H->H acc=some (.lst ys)/\ys.length <= i)
  (hs:∀ i ys τ H,i < n->Pv i ys τ H->g (.int (lo + i)) τ H fun τ2 H2=>te τ2 H2 fun y H4=>H4 acc=some (.lst ys)/\Pv (i + 1) (ys ++ [y]) τ2 (upd H4 acc (.lst (ys ++ [y]))))
  (hd:∀ ys τ H,Pv n ys τ H->Q (.ref acc) H):LCW (Itr lo n) xs ix g tYes te σ H1 acc Q:=
 lc_range hn Pv h0 hacc (fun i ys τ H hi p=>yes_in (R:=fun τ2 _=>fun y H4=>H4 acc=some (.lst ys)/\Pv (i + 1) (ys ++ [y]) τ2 (upd H4 acc (.lst (ys ++ [y])))) (hs i ys τ H hi p)) hd
theorem lc_str0 {xs:List Str} {ix:List Nat} {g:TG} {te:TE} {z:Str} {σ:St} {H1:Hp} {Q:VK} {acc:Addr} (hn:z.cps.size < sizeLine) (Pv:Nat->List V->St->Hp->Prop)
  (h0:Pv 0 [] (stC xs ix σ) (upd H1 acc (.lst [])))
  (hacc:∀ i ys τ H,Pv i ys τ H->H acc=some (.lst ys)/\ys.length <= i)
  (hs:∀ i ys τ H,i < z.cps.size->Pv i ys τ H->g (.str ⟨#[z.cps.getD i 0]⟩) τ H fun τ2 H2=>te τ2 H2 fun y H4=>H4 acc=some (.lst ys)/\Pv (i + 1) (ys ++ [y]) τ2 (upd H4 acc (.lst (ys ++ [y]))))
  (hd:∀ ys τ H,Pv z.cps.size ys τ H->Q (.ref acc) H):LCW (Its z) xs ix g tYes te σ H1 acc Q:=
 lc_str hn Pv h0 hacc (fun i ys τ H hi p=>yes_in (R:=fun τ2 _=>fun y H4=>H4 acc=some (.lst ys)/\Pv (i + 1) (ys ++ [y]) τ2 (upd H4 acc (.lst (ys ++ [y])))) (hs i ys τ H hi p)) hd
theorem lc_list0 {K:PySem.W.Frag} {a:Addr} {its:List V} {xs:List Str} {ix:List Nat} {g:TG} {te:TE} {σ:St} {H1:Hp} {Q:VK} {acc:Addr} (hn:its.length < sizeLine) (Pv:Nat->List V->St->Hp->Prop)
  (h0:Pv 0 [] (stC xs ix σ) (upd H1 acc (.lst [])))
  (hacc:∀ i ys τ H,Pv i ys τ H->H acc=some (.lst ys)/\ys.length <= i/\SqL K H a its)
  (hs:∀ i ys τ H x,its[i]?=some x->Pv i ys τ H->g x τ H fun τ2 H2=>te τ2 H2 fun y H4=>H4 acc=some (.lst ys)/\Pv (i + 1) (ys ++ [y]) τ2 (upd H4 acc (.lst (ys ++ [y]))))
  (hd:∀ ys τ H,Pv its.length ys τ H->Q (.ref acc) H):LCW (Itl K a) xs ix g tYes te σ H1 acc Q:=
 lc_list hn Pv h0 hacc (fun i ys τ H x hi p=>yes_in (R:=fun τ2 _=>fun y H4=>H4 acc=some (.lst ys)/\Pv (i + 1) (ys ++ [y]) τ2 (upd H4 acc (.lst (ys ++ [y])))) (hs i ys τ H x hi p)) hd
end L2
namespace L2
open PySem PySem.Spec PyProof.Rows
section
variable {X:Cx}
def rIxH:R2:=fun x y H Q=>∃ p xs i v,x=.ref p/\y=.int i/\H p=some (.lst xs)/\atI xs i=some v/\Q v H
theorem ix_lstH:IxR X rIxH:=fun value slice pins s σ H x y v u Q I rx ry hz hs=>by
 obtain ⟨p,xs,i,z,a,b,c,d,e⟩:=hz
 exact ix_list value slice pins s σ H x y v u Q I rx ry ⟨p,xs,i,z,a,b,.of c,d,e⟩ hs
def rIxTH:R2:=fun x y H Q=>∃ p xs i v,x=.ref p/\y=.int i/\H p=some (.tup xs)/\atI xs i=some v/\Q v H
theorem ix_tupH:IxR X rIxTH:=fun value slice pins s σ H x y v u Q I rx ry hz hs=>by
 obtain ⟨p,xs,i,z,a,b,c,d,e⟩:=hz
 exact ix_tup value slice pins s σ H x y v u Q I rx ry ⟨p,xs,i,z,a,b,.of c,d,e⟩ hs
end
end L2
namespace L2
open PySem PySem.Spec PyProof.Rows
def CompS (N:List Str) (sc:Scope) (xs:List Str) (ix:List Nat) (scope:Scope):Prop:=
 scope.kind=.function/\(∀ y ∈ scope.names,y.2 ≠ .cell)/\(∀ y ∈ scope.names,y.2=.local->scope.names.lookup y.1=some .local) /\
 (∀ y ∈ scope.names,y.2=.free->sc.names.lookup y.1=some .cell \/ sc.names.lookup y.1=some .free)/\(∀ x ∈ xs,scope.names.lookup x=some .local) /\
 (xs ++ ix.map (fun i=>N.getD i "")).Nodup/\(∀ i ∈ ix,i < N.length)/\(∀ i ∈ ix,scope.names.lookup (N.getD i "")=some .free)
instance {N:List Str} {sc:Scope} {xs:List Str} {ix:List Nat} {scope:Scope}:Decidable (CompS N sc xs ix scope):=by unfold CompS;infer_instance
theorem CompS.at {X:Cx} {N:List Str} {sc:Scope} {xs:List Str} {ix:List Nat} {scope:Scope} (S:CompS N sc xs ix scope) (hN:X.N=N) (hsc:X.env.scope=sc):CompScope X xs ix scope:=by
 obtain ⟨a,b,c,d,e,f,g,h⟩:=S
 subst hN hsc
 exact ⟨a,b,c,fun n hn=>d (n,.free) hn rfl,e,f,g,h⟩
theorem pe_lc1 {X:Cx} {N:List Str} {sc:Scope} {x:Str} {ix:List Nat} {scope:Scope} {elt iter:Expr} {ifs:List Expr} {px pos:Pos} {wi:TI} {tt:TT} {te:TE}
  (hS:CompS N sc [x] ix scope) (hi:PI X (.Name x px) iter wi)
  (ht:∀ C fp s H,PTs (cxC X [x] ix scope C fp s H) ifs tt) (he:∀ C fp s H,PE (cxC X [x] ix scope C fp s H) elt te)
  (hN:X.N=N:=by rfl) (hsc:X.env.scope=sc:=by rfl) (hc:X.calm=true:=by rfl)
  (hs:∀ x,foldedSetIterable iter X.env x=pure x:=by intro _;rfl) :
  PE X (.ListComp elt [⟨.Name x px,iter,ifs,0⟩] scope pos) (tLC [x] ix wi (gName 0) tt te):=by
 have S:=hS.at (X:=X) hN hsc
 have hl:∀ C fp s H,(cxC X [x] ix scope C fp s H).env.scope.names.lookup x=some .local:=fun _ _ _ _=>lookup_relabel_local (S.own x (by simp))
 exact pe_lc S hc hi (fun C fp s H=>pg_name S.nd rfl (Or.inl (hl C fp s H)) (.inr (hl C fp s H))) ht he hs
theorem len_app (x y:Str):(x ++ y).length=x.length + y.length:=by
 show (x.cps ++ y.cps).size=_
 simp [Str.length]
end L2
namespace L2
open PySem PySem.Spec PyProof.Rows
theorem Keep.drop {S:List Addr} {H H':Hp} {a:Addr} (k:Keep (a :: S) H H') (h:H a=Option.none):Keep S H H':=fun b o n q=>k b o (fun z=>(List.mem_cons.mp z).elim (fun e=>by rw [e,h] at q;cases q) n) q
theorem upd_none {H:Hp} {p a:Addr} {o:HO} (h:upd H p o a=Option.none):H a=Option.none/\a ≠ p:=by
 by_cases e:a=p
 ·rw [e,upd_same] at h;cases h
 ·rw [upd_ne e] at h;exact ⟨h,e⟩
theorem join_len (ys:List Str):(Txt.join (Str.ofString "") ys).length=(ys.map (·.length)).sum:=by
 show (Builtin.Str.glued (Str.ofString "") ys).length=_
 rw [size_glued]
 show _ + (ys.length - 1) * 0=_
 omega
theorem sum_ones:∀ (ys:List Str),(∀ z ∈ ys,z.length=1)->(ys.map (·.length)).sum=ys.length
 | [],_=>rfl
 | y :: ys,h=>by
  rw [List.map_cons,List.sum_cons,h y List.mem_cons_self,sum_ones ys fun z hz=>h z (List.mem_cons_of_mem _ hz),List.length_cons]
  omega
end L2
namespace L2
theorem atI_in {α:Type} {xs:List α} {i:Int} (h0:0 <= i) (h1:i < xs.length):∃ v,atI xs i=some v/\xs[i.toNat]?=some v:=by
 have hl:i.toNat < xs.length:=by omega
 refine ⟨xs[i.toNat],?_,List.getElem?_eq_getElem hl⟩
 have e:=atI_nat (List.getElem?_eq_getElem hl)
 rwa [Int.toNat_of_nonneg h0] at e
end L2
namespace L2
open PySem PySem.Spec PyProof.Rows
structure Glo (mg:Str->Option Value) (x:Str) (v:V):Prop where
 ex:∃ u,mg x=some u/\RelV v u
theorem pe_glo {X:Cx} {x:Str} {v:V} {pos:Pos} (g:Glo X.mg x v) (hg:Gl X x:=by rfl) (hd:(x == ("__debug__" : Str))=false:=by decide):PE X (.Name x pos) (tC v):=
 let ⟨_,hm,r⟩:=g.ex
 pe_glob hg hm r hd
inductive PlainT (K:PySem.W.Frag) (H:Hp):V->String->Prop where
 | non:PlainT K H .non "NoneType"
 | bl (x:Bool):PlainT K H (.bl x) "bool"
 | int (i:Int):PlainT K H (.int i) "int"
 | str (x:Str):PlainT K H (.str x) "str"
 | lst {a:Addr} {xs:List V} (e:H a=some (.lst xs)):PlainT K H (.ref a) "list"
 | tup {a:Addr} {xs:List V} (e:H a=some (.tup xs)):PlainT K H (.ref a) "tuple"
 | dK {a:Addr} {kvs:List (Key × V)} (e:H a=some (.dK kvs)):PlainT K H (.ref a) "dict"
theorem PlainT.ty {K:PySem.W.Frag} {H:Hp} {x:V} {T:String} (h:PlainT K H x T):TyOf K H x (.type T):=by
 cases h with
 | non=>exact .non
 | bl b=>exact .bl b
 | int i=>exact .int i
 | str z=>exact .str z
 | lst e=>exact .lst e
 | tup e=>exact .tup e
 | dK e=>exact .dK e
theorem PlainT.kit {K:PySem.W.Frag} {H:Hp} {x:V} {T:String} (h:PlainT K H x T):PySem.W.kitOne K (.type T) (.type "str")=some (T == "str")/\PySem.W.kitOne K (.type T) (.type "int")=some (T == "int" || T == "bool") /\
  PySem.W.kitOne K (.type T) (.type "bool")=some (T == "bool")/\PySem.W.kitOne K (.type T) (.type "list")=some (T == "list")/\PySem.W.kitOne K (.type T) (.type "tuple")=some (T == "tuple"):=by
 cases h <;> exact ⟨rfl,rfl,rfl,rfl,rfl⟩
theorem PlainT.keep {K:PySem.W.Frag} {H H':Hp} {x:V} {T:String} (h:PlainT K H x T) (k:Keep [] H H'):PlainT K H' x T:=by
 cases h with
 | non=>exact .non
 | bl b=>exact .bl b
 | int i=>exact .int i
 | str z=>exact .str z
 | lst e=>exact .lst (k _ _ (by simp) e)
 | tup e=>exact .tup (k _ _ (by simp) e)
 | dK e=>exact .dK (k _ _ (by simp) e)
abbrev abc:Str:="abcdefghijklmnopqrstuvwxyz"
def letterB (c:Nat):Bool:=!(Builtin.Str.occurrences abc ⟨#[c]⟩ 0 abc.length 1).isEmpty
def nameS (z:Str):Bool:=decide (1 <= z.length) && decide (z.length <= 8) && z.cps.toList.all letterB
def nameV:V->Bool
 | .str z=>nameS z
 | _=>false
theorem all_map_id {α:Type} (l:List α) (f:α->Bool):(l.map f).all id=l.all f:=by rw [List.all_map];rfl
end L2
namespace L2
open PySem
theorem bo_isinstance:bootBuiltins "isinstance"=some (.builtin "isinstance"):=by decide +kernel
theorem bo_len:bootBuiltins "len"=some (.builtin "len"):=by decide +kernel
theorem bo_all:bootBuiltins "all"=some (.builtin "all"):=by decide +kernel
theorem bo_sorted:bootBuiltins "sorted"=some (.builtin "sorted"):=by decide +kernel
theorem bo_min:bootBuiltins "min"=some (.builtin "min"):=by decide +kernel
theorem bo_max:bootBuiltins "max"=some (.builtin "max"):=by decide +kernel
theorem bo_str:bootBuiltins "str"=some (.type "str"):=by decide +kernel
theorem bo_int:bootBuiltins "int"=some (.type "int"):=by decide +kernel
theorem bo_list:bootBuiltins "list"=some (.type "list"):=by decide +kernel
theorem bo_tuple:bootBuiltins "tuple"=some (.type "tuple"):=by decide +kernel
theorem bo_dict:bootBuiltins "dict"=some (.type "dict"):=by decide +kernel
theorem bo_set:bootBuiltins "set"=some (.type "set"):=by decide +kernel
theorem bo_ValueError:bootBuiltins "ValueError"=some (.type "ValueError"):=by decide +kernel
end L2
namespace L2
theorem ifF {c:Bool} {A B:Prop} (h:c=false) (k:B):if c=true then A else B:=by rw [h];exact iteF k
theorem ifT {c:Bool} {A B:Prop} (h:c=true) (k:A):if c=true then A else B:=by rw [h];exact iteT k
end L2
namespace L2
open PySem PySem.Spec PyProof.Rows
theorem eqV_refl {x:V} (f:flatV x=true):eqV x x=true:=by
 cases x with
 | non=>rfl
 | bl b=>cases b <;> rfl
 | int i=>show (i == i)=true;simp
 | str z=>show (z == z)=true;simp
 | _=>exact absurd (show false=true from f) Bool.false_ne_true
section
variable {X:Cx}
def Rows (H:Hp) (p:Addr) (rows:List (List V)):Prop:=∃ ps:List Addr,H p=some (.lst (ps.map V.ref))/\Paired (fun q r=>H q=some (.tup r)) ps rows
theorem paired_get {α β:Type} {F:α->β->Prop} {xs:List α} {ys:List β} (h:Paired F xs ys):∀ (i:Nat) (x:α),xs[i]?=some x->∃ y,ys[i]?=some y/\F x y:=by
 induction h with
 | nil=>intro i x h;simp at h
 | cons r _ ih=>
  intro i x h
  cases i with
  | zero=>simp at h;subst h;exact ⟨_,rfl,r⟩
  | succ i=>
   obtain ⟨y,h1,h2⟩:=ih i x (by simpa using h)
   exact ⟨y,by simpa using h1,h2⟩
theorem paired_snoc {α β:Type} {F:α->β->Prop} {a:α} {b:β} {xs:List α} {ys:List β} (h:Paired F xs ys) (r:F a b):Paired F (xs ++ [a]) (ys ++ [b]):=by
 induction h with
 | nil=>exact .cons r .nil
 | cons q _ ih=>exact .cons q ih
theorem paired_len {α β:Type} {F:α->β->Prop} {xs:List α} {ys:List β} (h:Paired F xs ys):xs.length=ys.length:=by
 induction h with
 | nil=>rfl
 | cons _ _ ih=>exact congrArg Nat.succ ih
theorem Rows.keep {H H':Hp} {p:Addr} {rows:List (List V)} (h:Rows H p rows) (k:Keep [] H H'):Rows H' p rows:=by
 obtain ⟨ps,e,r⟩:=h
 exact ⟨ps,k _ _ (by simp) e,L2.Paired.mapP r fun q x z=>k _ _ (by simp) z⟩
theorem refs_of:∀ {ps:List Addr} {us:List Value},Vals (ps.map V.ref) us->us=ps.map Value.ref
 | [],_,.nil=>rfl
 | p :: ps,_,.cons r t=>by cases r;rw [List.map_cons,refs_of t]
open MeetsSeq in
open AutoSeq1 (wpAny_loadPart') in
open MeetsSeq in
open AutoSeq1 (wpAny_loadPart') in
def rNeE (neg:Bool):R2:=fun x y H Q=>∃ a b xs,x=.ref a/\y=.ref b/\H a=some (.lst xs)/\H b=some (.lst [])/\a ≠ b/\Q (.bl (if neg then !xs.isEmpty else xs.isEmpty)) H
theorem op_eqE (hu:X.A.units < cLine):OpR X (compareOp .Eq) (rNeE false):=by
 intro pins s σ H x y v u Q I rx ry h
 obtain ⟨a,b,xs,rfl,rfl,ha,hb,hne,q⟩:=h
 cases rx;cases ry
 obtain ⟨i1,r1,p1,_⟩:=I.list (.of ha)
 obtain ⟨i2,r2,p2,_⟩:=I.list (.of hb)
 cases r2
 cases xs with
 | nil=>
  cases r1
  exact SeqAt.eq_listAt (e:=fun _=>true) p1.isList p2.isList rfl hu (fun j h1=>by simp at h1) ⟨.bl _,H,I,rfl,q⟩
 | cons x xs=>
  have l1:=r1.length
  refine SeqAt.eq_list_lengthsAt p1.isList p2.isList ?_ hu ⟨.bl false,H,I,rfl,q⟩
  rw [List.size_toArray,List.size_toArray,<- l1]
  rfl
end
structure MthG (K:PySem.W.Frag) (C:Addr) (m qual:Str) (st:Stmt) (ps:List Str):Prop where
 ex:∃ (f:Addr) (fd:FuncData),Fun K m qual st f fd/\Meth K C m f/\Binds K fd ps []
structure MCal (P:Program) (w:World) (K:PySem.W.Frag) (mg:Str->Option Value) (base:Heap) (CX:CXT) (k:Nat) (C:Addr) (m:Str) (ps:List Str) (sp:Sp):Prop where
 ex:∃ (f:Addr) (fd:FuncData),FnOk P w K mg base CX k f fd ps sp/\Meth K C m f/\Binds K fd ps []
section
variable {P:Program} {w:World} {K:PySem.W.Frag} {mg:Str->Option Value} {base:Heap}
theorem MthG.ok {C:Addr} {m qual:Str} {st:Stmt} {N ps:List Str} {k:Nat} {sp:Sp} (G:MthG K C m qual st ps) (S:FnScope N ps (defScope st)) (len:∀ vs H Q E,sp vs H Q E->vs.length=ps.length)
  (hbody:∀ (f:Addr) (cdv:Value) (A:Around) (outer:List Env) (s:Shared) (H:Hp) (vs:List V) (Q:VK) (E:XK),Room k (A.deeper (envOfC qual (defScope st) s.heap.objs.size f cdv))->sp vs H Q E ->
   ∃ t,PSs (cxOf CX0 P w K mg base N qual (defScope st) f cdv A outer s H E).nox (defBody st) t/\t { nx:=fun _ H'=>Q .non H',rt:=Q } (start N vs) H):MCal P w K mg base CX0 (k + 1) C m ps sp:=by
 obtain ⟨f,fd,F,hm,hb⟩:=G.ex
 exact ⟨f,fd,F.ok S len fun cdv A outer s H vs Q E hr h=>hbody f cdv A outer s H vs Q E hr h,hm,hb⟩
theorem mthG_mk {C:Addr} {x qual:Str} {st:Stmt} {f:Addr} {oc:Value} {od an:Option Addr} {osl:Array (Option Value)} {kV doc pm cdv ct:Value} {ps:List Str}
  (a:PySem.W.findIn K (.ref C) x=some (some (.ref f))) (i:PySem.W.isFn K (.ref f)=true)
  (l:K.lookup f=some ⟨oc,od,.func (PySem.W.fnOf x qual (defArgs st) (defBody st) (defScope st) .none kV doc pm an cdv ct),osl⟩) (c:PySem.W.codeIn K cdv qual=true) (k:PySem.W.keepIn K (.ref f)=true)
  (hb:∀ (kV doc pm:Value) (an:Option Addr) (cdv ct:Value) (us:List Value),us.length=ps.length->bindArgs (PySem.W.fnOf x qual (defArgs st) (defBody st) (defScope st) .none kV doc pm an cdv ct) ⟨us,[]⟩=pure (ps.zip us)):MthG K C x qual st ps:=
 ⟨f,_,fun_mk l c k,⟨a,i,k⟩,(fun_mk l c k).binds hb⟩
end
section
variable {X:Cx} {k:Nat} {C:Addr} {ps:List Str} {sp:Sp} {m:Str} {apos pos:Pos} {o e:Expr} {es:List Expr} {ta:TE} {t:TA}
theorem pe_mth0 {pl:Sem Bool} (M:MCal X.prog X.w X.K X.mg X.base CX0 k C m ps sp) (c:Cls X.K C) (hr:Room k X.A) (ho:PE X o ta)
  (ht:eval (.Call (.Attribute o m apos) [] [] pos) X.env=(do
   let ov <- eval o X.env
   standAt apos.atName
   let (f,first) <- holding [ov] (getMethod ov m pl)
   callWith pos f first (backTo pos (starEach [] X.env)) (backToKw pos (keywordEach [] X.env))):=by rfl) :
  PE X (.Call (.Attribute o m apos) [] [] pos) (tMeth C m sp [] E0 ta tNil):=
 let ⟨_,_,F,hm,hb⟩:=M.ex
 pe_meth0 ho c hm F hr hb .nil pass0 ht
end
end L2
namespace L2
open PySem PySem.Spec PyProof.Rows
section
variable {X:Cx}
theorem op_neE (hu:X.A.units < cLine):OpR X (compareOp .NotEq) (rNeE true):=by
 intro pins s σ H x y v u Q I rx ry h
 obtain ⟨a,b,xs,rfl,rfl,ha,hb,hne,q⟩:=h
 cases rx;cases ry
 obtain ⟨i1,r1,p1,_⟩:=I.list (.of ha)
 obtain ⟨i2,r2,p2,_⟩:=I.list (.of hb)
 cases r2
 cases xs with
 | nil=>
  cases r1
  exact SeqAt.RcNeAt.lists (e:=fun _=>true) p1.isList p2.isList rfl hu (fun j h1=>by simp at h1) _ _ _ _ ⟨.bl _,H,I,rfl,q⟩
 | cons x xs=>
  have l1:=r1.length
  refine SeqAt.RcNeAt.lists_lengths p1.isList p2.isList ?_ hu _ _ _ _ ⟨.bl true,H,I,rfl,q⟩
  rw [List.size_toArray,List.size_toArray,<- l1]
  rfl
end
structure MkCal (P:Program) (w:World) (K:PySem.W.Frag) (mg:Str->Option Value) (base:Heap) (CX:CXT) (k:Nat) (C:Addr) (x:Str) (ps:List Str) (sp:Sp):Prop where
 ex:∃ (f:Addr) (fd:FuncData),FnOk P w K mg base CX k f fd ps sp/\Mk K C f/\mg x=some (.ref C)/\Binds K fd ps []
section
variable {X:Cx} {k:Nat} {C:Addr} {ps:List Str} {sp:Sp} {x:Str} {p pos:Pos} {e:Expr} {es:List Expr} {t:TA}
end
end L2
namespace L2
open PySem PySem.Spec PyProof.Rows
section
variable {prog:Program} {w:World} {A:Around} {E:Value->Shared->Prop} {s:Shared}
end
section
variable {X:Cx} {pos:Pos}
end
theorem pe_lc2 {X:Cx} {N:List Str} {sc:Scope} {x y:Str} {ix:List Nat} {scope:Scope} {elt iter:Expr} {ifs:List Expr} {px py tp pos:Pos} {tk:Nat} {wi:TI} {tt:TT} {te:TE}
  (hS:CompS N sc [x,y] ix scope) (hi:PI X (.Tuple [.Name x px,.Name y py] tk tp) iter wi)
  (ht:∀ C fp s H,PTs (cxC X [x,y] ix scope C fp s H) ifs tt) (he:∀ C fp s H,PE (cxC X [x,y] ix scope C fp s H) elt te)
  (hN:X.N=N:=by rfl) (hsc:X.env.scope=sc:=by rfl) (hc:X.calm=true:=by rfl)
  (hs:∀ x,foldedSetIterable iter X.env x=pure x:=by intro _;rfl) :
  PE X (.ListComp elt [⟨.Tuple [.Name x px,.Name y py] tk tp,iter,ifs,0⟩] scope pos) (tLC [x,y] ix wi (gTup X.K 2 (gCons (gName 0) (gCons (gName 1) gNil))) tt te):=by
 have S:=hS.at (X:=X) hN hsc
 have hl:∀ C fp s H,(cxC X [x,y] ix scope C fp s H).env.scope.names.lookup x=some .local:=fun _ _ _ _=>lookup_relabel_local (S.own x (by simp))
 have hl2:∀ C fp s H,(cxC X [x,y] ix scope C fp s H).env.scope.names.lookup y=some .local:=fun _ _ _ _=>lookup_relabel_local (S.own y (by simp))
 exact pe_lc S hc hi (fun C fp s H=>pg_tup (X:=cxC X [x,y] ix scope C fp s H) hc (pgs_cons (pg_name S.nd rfl (Or.inl (hl C fp s H)) (.inr (hl C fp s H))) (pgs_cons (pg_name S.nd rfl (Or.inl (hl2 C fp s H)) (.inr (hl2 C fp s H))) pgs_nil))) ht he hs
theorem seq_by {a b:TS} {D:Ends} {σ:St} {H:Hp} (M:St->Hp->Prop) (h2:∀ σ' H',M σ' H'->b D σ' H') (h1:∀ nx':St->Hp->Prop,(∀ σ' H',M σ' H'->nx' σ' H')->a { D with nx:=nx' } σ H):tSeq a b D σ H:=h1 (b D) h2
theorem nm_skip {i:Nat} {v:V} {σ:St} {H:Hp} {Q:St->Hp->Prop} (h:Q (σ.set i (some v)) H):gName i v σ H Q:=h
theorem nx_seq {a b:TS} {D:Ends} {rt:VK} {bk ct:St->Hp->Prop} {σ:St} {H:Hp} (h:tSeq a b D σ H):({ nx:=tSeq a b D,rt:=rt,bk:=bk,ct:=ct }:Ends).nx σ H:=h
theorem Keep.under {S:List Addr} {H0 H1 H2:Hp} (k0:Keep [] H0 H1) (k:Keep S H1 H2) (hS:∀ b ∈ S,H0 b=Option.none):Keep [] H0 H2:=fun b o _ h=>k b o (fun hb=>by rw [hS b hb] at h;cases h) (k0 b o (by simp) h)
theorem paired_app {α β:Type} {F:α->β->Prop}:∀ {a c:List α} {b d:List β},Paired F a b->Paired F c d->Paired F (a ++ c) (b ++ d)
 | _,_,_,_,.nil,h=>h
 | _,_,_,_,.cons r t,h=>.cons r (paired_app t h)
theorem cut_ints (ns:List Int) (lo hi:Option Int):∃ ms:List Int,cutV (ns.map V.int) lo hi=ms.map V.int/\ms.length <= ns.length:=by
 unfold cutV
 refine ⟨(ns.drop (HT.sIx (ns.map V.int).length 0 lo)).take (HT.sIx (ns.map V.int).length (ns.map V.int).length hi - HT.sIx (ns.map V.int).length 0 lo),by rw [List.map_take,List.map_drop],?_⟩
 rw [List.length_take,List.length_drop]
 omega
end L2
namespace L2
open PySem PySem.Spec PyProof.Rows
def ClsIs (ob:Obj) (C:Addr):Prop:=ob.cls=.ref C/\ob.dict=none
theorem dict_mapF (f:Array Value->Array Value) (o:Obj):(Obj.mapFields f o).dict=o.dict:=by
 unfold Obj.mapFields
 split <;> rfl
def Rec (h B:Heap) (e C:Addr) (fl:Value):Prop:=
 ∃ (ob:Obj) (cells:Array Value) (tb:Addr) (ot:Obj) (tcs:Array Value),h.get? e=some ob/\ClsIs ob C/\ob.data=.fields cells/\cells[2]?=some .none/\cells[1]?=some (.ref tb) /\
  B.get? tb=none/\tb ≠ e/\h.get? tb=some ot/\ot.data=.fields tcs/\tcs[3]?=some fl
def Fly (B:Heap) (l:List Env) (e C:Addr) (fl:Value) (h:Heap):Prop:=B.StaysIn h/\B.get? e=none/\h.FunFrames B l/\Rec h B e C fl
section
variable {M:Model} {A:Around} {E:Value->Shared->Prop} {s:Shared} {B:Heap} {env:Env} {outer:List Env} {L e C:Addr} {Q:Unit->Shared->Prop}
theorem noteTail {head:Value} {hadNext:Bool} {ob:Obj} {cells:Array Value} (fr:A.frames=some (env :: outer)) (ff:s.heap.FunFrames B (env :: outer)) (ef:env.frame=some L)
  (ge:s.heap.get? e=some ob) (gc:ClsIs ob C) (st:B.StaysIn s.heap) (ne:B.get? e=none) (gd:ob.data=.fields cells) (g2:cells[2]?=some .none)
  (k:∀ h',Fly B (env :: outer) e C (rawInt L) h'->s.heap.UpToSlots h'->Q () { s with heap:=h' }) :
  wpAny M A (do let a <- frameOf env;let pl <- entryPlaceOf L hadNext;let b <- EntryCells.newEntry head a .none (rawInt L) .none pl;setField (.ref e) 1 b) Q E s:=by
 have z2:2 < cells.size:=(Array.getElem?_eq_some_iff.mp g2).1
 have z1:1 < cells.size:=by omega
 have nfe:e ∉ (env :: outer).filterMap (·.frame):=fun hm=>by
  obtain ⟨_,o,ho,hnf⟩:=ff.mem hm
  rw [ge] at ho;cases ho;exact hnf cells gd
 refine wpAny_bind (wpAny_frameOf_fun fr ff ef fun g hg=>?_)
 refine wpAny_bind (wpAny_entryPlaceOf fun pl hpl=>?_)
 unfold EntryCells.newEntry newFields
 refine wpAny_bind (wpAny_newObj_type ?_ (hpl.sizeOk5 _ _ _ _ _))
 have e1:g.get? e=some ob:=(hg.2.1 e nfe).trans ge
 have st1:B.StaysIn g:=fun b o hb=>(hg.2.1 b fun hm=>by rw [(ff.mem hm).1] at hb;cases hb).trans (st b o hb)
 generalize htb:({ cls:=.type "traceback",dict:=none,data:=.fields ([head,.ref L,.none,rawInt L,.none] ++ (if pl.isEmpty then List.replicate 6 Value.none else pl)).toArray }:Obj)=tbo
 have tbd:∃ tcs:Array Value,tbo.data=.fields tcs/\tcs[3]?=some (rawInt L):=⟨_,by rw [<- htb],by first | (simp;done) | (rcases hpl with rfl | ⟨_,_,_,_,_,_,_,rfl⟩ <;> simp)⟩
 obtain ⟨tcs,td,t3⟩:=tbd
 have e2:=Heap.get?_push_of_some (h:=g) tbo e1
 have nte:g.objs.size ≠ e:=Nat.ne_of_gt (Heap.lt_size e1)
 have d3:=Obj.data_mapFields gd (·.setIfInBounds 1 (Value.ref g.objs.size))
 have e3:=Heap.get?_update_self (Obj.mapFields (·.setIfInBounds 1 (Value.ref g.objs.size))) e2 (Obj.isFreed_of_fields d3)
 have oth:∀ b o,b ≠ e->g.get? b=some o->((g.push tbo).update e (Obj.mapFields (·.setIfInBounds 1 (Value.ref g.objs.size)))).get? b=some o:=fun b o nb hb=>by
  rw [Heap.get?_update_other _ _ (Ne.symm nb)];exact Heap.get?_push_of_some _ hb
 have nrec:∀ b o,s.heap.get? b=some o->(∀ vs,o.data ≠ .fields vs)->b ≠ e:=fun b o hb hnf z=>by
  rw [z,ge] at hb;cases hb;exact hnf cells gd
 have up:s.heap.UpToSlots ((g.push tbo).update e (Obj.mapFields (·.setIfInBounds 1 (Value.ref g.objs.size)))):=fun b o hb hnf=>by
  obtain ⟨sl,q⟩:=hg.2.2 b o hb
  exact ⟨sl,oth b _ (nrec b o hb hnf) q⟩
 have tbg:((g.push tbo).update e (Obj.mapFields (·.setIfInBounds 1 (Value.ref g.objs.size)))).get? g.objs.size=some tbo:=by
  rw [Heap.get?_update_other _ _ (Ne.symm nte)]
  exact Heap.get?_push_size g (Obj.isFreed_of_fields td)
 refine wpAny_setField e2 gd z1 (k _ ⟨fun b o hb=>oth b o (fun z=>by rw [z,ne] at hb;cases hb) (st1 b o hb),ne,ff.of_keeps fun b o hb hnf=>?_,?_⟩ up)
 ·obtain ⟨sl,q⟩:=up b o hb hnf
  exact ⟨_,q,rfl⟩
 ·exact ⟨_,_,g.objs.size,tbo,tcs,e3,⟨(Obj.cls_mapFields _ _).trans gc.1,(dict_mapF _ _).trans gc.2⟩,d3,by rw [Array.getElem?_setIfInBounds_ne (by decide)];exact g2,by simp [z1],st1.fresh,nte,tbg,td,t3⟩
theorem note_new {ob:Obj} {cells:Array Value} (fr:A.frames=some (env :: outer)) (ff:s.heap.FunFrames B (env :: outer)) (ef:env.frame=some L)
  (ge:s.heap.get? e=some ob) (gc:ClsIs ob C) (st:B.StaysIn s.heap) (ne:B.get? e=none) (gd:ob.data=.fields cells) (g1:cells[1]?=some .none) (g2:cells[2]?=some .none)
  (k:∀ h',Fly B (env :: outer) e C (rawInt L) h'->s.heap.UpToSlots h'->Q () { s with heap:=h' }):wpAny M A (noteFrame (.ref e) env) Q E s:=by
 unfold noteFrame
 simp only [ef]
 refine wpAny_bind (wpAny_field ge gd g1 ?_)
 rw [if_neg (by decide)]
 exact noteTail fr ff ef ge gc st ne gd g2 k
theorem note_on (fr:A.frames=some (env :: outer)) (ef:env.frame=some L) (F:Fly B (env :: outer) e C .none s.heap)
  (k:∀ h',Fly B (env :: outer) e C (rawInt L) h'->s.heap.UpToSlots h'->Q () { s with heap:=h' }):wpAny M A (noteFrame (.ref e) env) Q E s:=by
 obtain ⟨st,ne,ff,ob,cells,tb,ot,tcs,ge,gc,gd,g2,g1,nb,nte,gt,td,t3⟩:=F
 unfold noteFrame
 simp only [ef]
 refine wpAny_bind (wpAny_field ge gd g1 ?_)
 rw [if_pos (by simp:(Value.ref tb != Value.none)=true)]
 refine wpAny_bind (wpAny_field gt td t3 ?_)
 rw [if_neg (by simp [rawInt]:¬ ((Value.none == rawInt L)=true))]
 refine wpAny_bind (wpAny_setField gt td (Array.getElem?_eq_some_iff.mp t3).1 ?_)
 have oth:∀ b,b ≠ tb->(s.heap.update tb (Obj.mapFields (·.setIfInBounds 3 Value.none))).get? b=s.heap.get? b:=fun b hb=>Heap.get?_update_other _ _ (Ne.symm hb)
 have nrec:∀ b o,s.heap.get? b=some o->(∀ vs,o.data ≠ .fields vs)->b ≠ tb:=fun b o hb hnf z=>by
  rw [z,gt] at hb;cases hb;exact hnf tcs td
 exact noteTail fr (ff.of_keeps fun b o hb hnf=>⟨o,(oth b (nrec b o hb hnf)).trans hb,rfl⟩) ef ((oth e (Ne.symm nte)).trans ge) gc (fun b o hb=>(oth b fun z=>by rw [z,nb] at hb;cases hb).trans (st b o hb)) ne gd g2
  fun h' F' up=>k h' F' fun b o hb hnf=>up b o ((oth b (nrec b o hb hnf)).trans hb) hnf
theorem land_on {l:List Env} {fl:Value} (F:Fly B l e C fl s.heap) (k:∀ h',Fly B l e C .none h'->s.heap.UpToSlots h'->Q () { s with heap:=h' }):wpAny M A (setFlight (.ref e) none) Q E s:=by
 obtain ⟨st,ne,ff,ob,cells,tb,ot,tcs,ge,gc,gd,g2,g1,nb,nte,gt,td,t3⟩:=F
 have z3:3 < tcs.size:=(Array.getElem?_eq_some_iff.mp t3).1
 have oth:∀ b,b ≠ tb->(s.heap.update tb (Obj.mapFields (·.setIfInBounds 3 ((none:Option Addr).elim Value.none fun f=>rawInt f)))).get? b=s.heap.get? b:=fun b hb=>Heap.get?_update_other _ _ (Ne.symm hb)
 have nrec:∀ b o,s.heap.get? b=some o->(∀ vs,o.data ≠ .fields vs)->b ≠ tb:=fun b o hb hnf z=>by
  rw [z,gt] at hb;cases hb;exact hnf tcs td
 unfold setFlight
 refine wpAny_bind (wpAny_field ge gd g1 ?_)
 rw [if_pos (by simp:(Value.ref tb != Value.none)=true)]
 refine wpAny_setField gt td z3 (k _ ⟨fun b o hb=>(oth b fun z=>by rw [z,nb] at hb;cases hb).trans (st b o hb),ne,ff.of_keeps fun b o hb hnf=>⟨o,(oth b (nrec b o hb hnf)).trans hb,rfl⟩,?_⟩ fun b o hb hnf=>⟨o.slots,(oth b (nrec b o hb hnf)).trans hb⟩)
 exact ⟨ob,cells,tb,_,_,(oth e (Ne.symm nte)).trans ge,gc,gd,g2,g1,nb,nte,Heap.get?_update_self _ gt (Obj.isFreed_of_fields (Obj.data_mapFields td _)),Obj.data_mapFields td _,by simp [z3]⟩
theorem Fly.down {l:List Env} {fl:Value} {h:Heap} (F:Fly B (env :: l) e C fl h):Fly B l e C fl h:=⟨F.1,F.2.1,F.2.2.1.2.2,F.2.2.2⟩
theorem leave_new {h:Heap} {args:List Value} (fr:A.frames=some (env :: outer)) (ff:h.FunFrames B (env :: outer)) (ef:env.frame=some L) (st:B.StaysIn h) (mk:Heap.MadeExcOf h s.heap e (.ref C) args)
  (k:∀ h',Fly B outer e C .none h'->s.heap.UpToSlots h'->Q () { s with heap:=h' }):wpAny M A (leaving env (.ref e)) Q E s:=by
 obtain ⟨t,ge,_,_⟩:=mk.there
 have ne:B.get? e=none:=by
  cases q:B.get? e with
  | none=>rfl
  | some o=>have:=st e o q;rw [mk.new] at this;cases this
 unfold leaving
 exact wpAny_bind (note_new fr (ff.of_keeps fun b o hb _=>⟨o,mk.keeps b o hb,rfl⟩) ef ge ⟨rfl,rfl⟩ (fun b o hb=>mk.keeps b o (st b o hb)) ne rfl rfl rfl fun g F1 u1=>land_on F1 fun h' F2 u2=>k h' F2.down (u1.trans u2))
end
end L2
namespace L2
open PySem PySem.Spec PyProof.Rows
section
variable {P:Program} {w:World} {H H':Hp} {h h' B:Heap} {a:Addr} {o:HO}
theorem ObjOk.there (x:ObjOk P w H h a o):∃ u,h.get? a=some u:=by
 cases o with
 | lst xs=>obtain ⟨_,_,_,_,q⟩:=x;exact ⟨_,q⟩
 | tup xs=>obtain ⟨_,_,_,⟨u,q,_⟩⟩:=x;exact ⟨u,q⟩
 | dK kvs=>obtain ⟨_,_,_,_,u,_,_,q,_⟩:=x;exact ⟨u,q⟩
 | dT kvs=>obtain ⟨_,_,_,_,u,_,_,q,_⟩:=x;exact ⟨u,q⟩
 | set S n=>obtain ⟨u,_,_,_,q,_⟩:=x;exact ⟨u,q⟩
 | ins C dx fs=>obtain ⟨_,_,_,q,_⟩:=x;exact ⟨_,q⟩
 | own y=>exact x
 | xd fs=>obtain ⟨_,⟨u,_,_,q,_⟩,_⟩:=x;exact ⟨u,q⟩
 | rng lo hi=>obtain ⟨_,_,_,q⟩:=x;exact ⟨_,q⟩
 | frz ob u=>obtain ⟨q,_⟩:=x;exact ⟨_,q⟩
 | tbl ps=>exact ⟨_,(show h.get? a=some _ from x)⟩
 | met f y=>exact ⟨_,(show h.get? a=some _ from x)⟩
 | ext φ=>obtain ⟨_,q,_⟩:=x;exact q
theorem HOk.air (ok:HOk P w H h) (st:B.StaysIn h) (st':B.StaysIn h') (cov:∀ c,H c ≠ none->∃ u,B.get? c=some u):HOk P w H h':=fun b o e=>
 (ok b o e).stay (fun c u hc q=>by
  have hn:H c ≠ none:=by
   rcases hc with z | z
   ·rw [z,e];intro y;cases y
   ·rw [z];intro y;cases y
  obtain ⟨u',qB⟩:=cov c hn
  have:=st c u' qB
  rw [q] at this;cases this
  exact st' c u qB) (fun _ z=>z) fun _ _ z=>z
end
def CXE (P:Program) (w:World):CXT:=fun outer H s E e s'=>∃ (a C:Addr) (B:Heap) (H':Hp),e=.ref a/\s'.os=s.os/\AllBare s'.gens/\Un (frs outer) [] H H' s.heap s'.heap/\HOk P w H' s'.heap/\Fly B outer a C .none s'.heap /\
 (∀ c,H' c ≠ none->∃ u,B.get? c=some u)/\(∀ b o,s.heap.get? b=some o->H b=none->b ∉ frs outer->B.get? b=some o)/\(∀ b o,s.heap.get? b=some o->b ∉ frs outer->∃ o',B.get? b=some o')/\E (.ref C) none H'
section
variable {P:Program} {w:World} {K:PySem.W.Frag} {mg:Str->Option Value} {base:Heap} {N:List Str} {qual:Str} {scope:Scope} {f:Addr} {cd:Value} {A:Around} {outer:List Env} {s0:Shared} {H0:Hp} {E:XK}
theorem nonf {h:Heap} {bb:Heap} {l:List Env} {b:Addr} {o:Obj} (ff:h.FunFrames bb l) (hb:b ∈ frs l) (q:h.get? b=some o):∀ vs,o.data ≠ .fields vs:=by
 obtain ⟨_,o',q',n⟩:=ff.mem hb
 rw [q] at q';cases q'
 exact n
theorem raise_cx {pins:List (Addr × Obj)} {σ:St} {H:Hp} {s:Shared} {h':Heap} {e C:Addr} {args:List Value} (I:Inv (cxOf (CXE P w) P w K mg base N qual scope f cd A outer s0 H0 E) pins σ H s)
  (mk:Heap.MadeExcOf s.heap h' e (.ref C) args) (hE:E (.ref C) none H):(cxOf (CXE P w) P w K mg base N qual scope f cd A outer s0 H0 E).xe (.ref e) { s with heap:=h' }:=by
 have nfree:∀ b ∈ frs (envOfC qual scope s0.heap.objs.size f cd :: outer),H b=none:=I.stkFree
 have ff:s.heap.FunFrames base (envOfC qual scope s0.heap.objs.size f cd :: outer):=I.stack
 have inB:∀ b o,s.heap.get? b=some o->b ∉ frs (envOfC qual scope s0.heap.objs.size f cd :: outer)->(PySem.W.hideAll s.heap (frs (envOfC qual scope s0.heap.objs.size f cd :: outer))).get? b=some o:=fun b o q n=>PySem.W.hideAll_get _ q n
 have st:(PySem.W.hideAll s.heap (frs (envOfC qual scope s0.heap.objs.size f cd :: outer))).StaysIn s.heap:=fun b o q=>PySem.W.of_hideAll _ q
 have cov:∀ c,H c ≠ none->∃ u,(PySem.W.hideAll s.heap (frs (envOfC qual scope s0.heap.objs.size f cd :: outer))).get? c=some u:=fun c hc=>by
  cases q:H c with
  | none=>exact absurd q hc
  | some o=>
   obtain ⟨u,hu⟩:=(I.hok c o q).there
   exact ⟨u,inB c u hu fun z=>hc (nfree c z)⟩
 have old:∀ b o,s0.heap.get? b=some o->b ∉ frs outer->b ∉ frs (envOfC qual scope s0.heap.objs.size f cd :: outer):=fun b o q n z=>by
  rcases List.mem_cons.mp (show b ∈ s0.heap.objs.size :: frs outer from z) with y | y
  ·exact Nat.lt_irrefl _ (Nat.lt_of_lt_of_eq (Heap.lt_size q) y.symm)
  ·exact n y
 refine leave_new (B:=PySem.W.hideAll s.heap (frs (envOfC qual scope s0.heap.objs.size f cd :: outer))) (h:=s.heap) I.ok.frames (PySem.W.funFrames_hide ff fun env he a ha=>List.mem_filterMap.mpr ⟨env,he,ha⟩) rfl st mk fun h2 F up=>?_
 have cov2:∀ b o,s0.heap.get? b=some o->H0 b=none->b ∉ frs outer->(PySem.W.hideAll s.heap (frs (envOfC qual scope s0.heap.objs.size f cd :: outer))).get? b=some o:=fun b o q n nb=>
  inB b o (I.base.keep b o q n nb (show b ∉ ([]:List Addr) by simp)) (old b o q nb)
 have cov3:∀ b o,s0.heap.get? b=some o->b ∉ frs outer->∃ o',(PySem.W.hideAll s.heap (frs (envOfC qual scope s0.heap.objs.size f cd :: outer))).get? b=some o':=fun b o q nb=>by
  obtain ⟨o',q'⟩:=I.base.there b o q (show b ∉ ([]:List Addr) by simp)
  exact ⟨o',inB b o' q' (old b o q nb)⟩
 have upf:∀ b o,b ∈ frs outer->s.heap.get? b=some o->∃ sl,h2.get? b=some { o with slots:=sl }:=fun b o hb q=>up b o (mk.keeps b o q) (nonf ff (List.mem_cons_of_mem _ hb) q)
 refine ⟨e,C,_,H,rfl,I.os,I.bare,⟨fun b o q n nb _=>F.1 b o (cov2 b o q n nb),fun b o q n hb nx=>?_,fun b o q n nx=>I.base.free b o q n nx,fun b o q nx=>?_,I.base.tups,I.base.frzs,I.base.tbls⟩,I.hok.air st F.1 cov,F,cov,cov2,cov3,hE⟩
 ·obtain ⟨sl,q1⟩:=I.base.slot b o q n hb nx
  obtain ⟨sl2,q2⟩:=upf b _ hb q1
  exact ⟨sl2,q2⟩
 ·by_cases hb:b ∈ frs outer
  ·obtain ⟨o',q1⟩:=I.base.there b o q nx
   obtain ⟨sl2,q2⟩:=upf b _ hb q1
   exact ⟨_,q2⟩
  ·obtain ⟨o',q1⟩:=cov3 b o q hb
   exact ⟨o',F.1 b o' q1⟩
end
end L2
namespace L2
open PySem PySem.Spec PyProof.Rows
abbrev bmVE:List Value:=[.type "ValueError",.type "Exception",.type "BaseException",.type "object"]
structure ExcC (K:PySem.W.Frag) (mg:Str->Option Value) (x:Str) (C:Addr):Prop where
 at_:mg x=some (.ref C)
 ok:PySem.W.excIn K C bmVE "ValueError.__new__"=true
theorem exc_obj {K:PySem.W.Frag} {h:Heap} {C:Addr} {bmB:List Value} {newId:String} (X:K.In h) (q:PySem.W.excIn K C bmB newId=true) :
  ∃ bm N nm qn bs hdct sn sub ab col dd k0 k1 k2 k3 k5,∃ mN:Str->Option Value,h.get? C=some (excClassObj nm qn C N bs bm hdct sn sub ab col dd k0 k1 k2 k3 k5 newId)/\h.Ns N mN/\mN "__init__"=none/\OwnTail h bmB bm:=by
 unfold PySem.W.excIn at q
 split at q
 ·rename_i dd cd sl hk
  split at q
  ·rename_i C' bm k0 k1 k2 k3 n k5 e1 e2
   simp only [Bool.and_eq_true,beq_iff_eq,Bool.not_eq_true'] at q
   obtain ⟨⟨⟨⟨⟨r1,r2⟩,r3⟩,r4⟩,r5⟩,r6⟩:=q
   subst r1 r2
   cases cd with
   | mk nm bs mro ns qn hdc sn sub ab col del=>
    dsimp only at e1 r3 r5 r6
    subst e1 r3
    have esl:sl = #[k0,k1,k2,k3,some (.builtin n),k5]:=by
     cases sl with
     | mk l=>
      dsimp only at e2
      rw [e2]
    subst esl
    exact ⟨bm,ns,nm,qn,bs,hdc,sn,sub,ab,col,dd,k0,k1,k2,k3,k5,_,X _ _ hk,.of_isNs (PySem.W.isNs_of_in X r5),PySem.W.nsMap_none_of_in X r5 r6,PySem.W.tail_of_in X r4⟩
  ·cases q
 ·cases q
structure RaiseOk (X:Cx) (E:XK):Prop where
 hd:X.A.handled=none
 out:∀ (pins:List (Addr × Obj)) (σ:St) (H:Hp) (s:Shared) (h':Heap) (e C:Addr) (args:List Value),Inv X pins σ H s->Heap.MadeExcOf s.heap h' e (.ref C) args->E (.ref C) none H->X.xe (.ref e) { s with heap:=h' }
def tRaise (E:XK) (C:Addr):TS:=fun _ _ H=>E (.ref C) none H
section
variable {X:Cx} {E:XK} {x:Str} {C:Addr}
theorem ps_raise {z:Str} {j np cp cpos pos} (R:RaiseOk X E) (c:ExcC X.K X.mg x C) (hg:Gl X x:=by rfl) (hd:(x == ("__debug__" : Str))=false:=by decide) :
  PS X (.Raise (some (.Call (.Name x np) [.Constant (.str z) j cp] [] cpos)) none pos) (tRaise E C):=by
 intro pins s σ H D I h
 obtain ⟨bm,N,nm,qn,bs,hdct,sn,sub,ab,col,dd,k0,k1,k2,k3,k5,mN,hC,hN,hni,T⟩:=exc_obj I.ok.mod.kin c.ok
 refine wpAny_Raise_call_subT (C:=C) (nm:=nm) (q:=qn) (N:=N) (bs:=bs) (bm:=bm) (hdct:=hdct) (sn:=sn) (sub:=sub) (ab:=ab) (col:=col) (dd:=dd) (k0:=k0) (k1:=k1) (k2:=k2) (k3:=k3) (k5:=k5)
  PySem.F.excBase_ValueError (mN:=mN) (T.hasType PySem.F.excBase_ValueError.hasBase) R.hd rfl hni (ld_glob I hg c.at_ ⟨rfl,?_⟩ hd)
 refine Calls.evalArgs_plain (thn ((pa_cons pe_str pa_nil) cpos pins s σ H (fun vs H1=>vs=[.str z]/\H1=H) I ⟨rfl,rfl⟩) fun us s1 hz57=>?_)
 obtain ⟨vs,H1,I1,r,e1,e2⟩:=hz57
 subst e1 e2
 obtain ⟨u,rfl,_⟩:=r.one
 exact ⟨rfl,by show 1 <= sizeLine;decide,I1.bk _ _ hC,hN.keeps I1.bk,T.keeps I1.bk,fun h' e mk=>R.out pins σ _ s1 h' e C _ I1 mk h⟩
end
section
variable {P:Program} {w:World} {K:PySem.W.Frag} {mg:Str->Option Value} {base:Heap}
theorem raiseOk_cx {N:List Str} {qual:Str} {scope:Scope} {f:Addr} {cd:Value} {A:Around} {outer:List Env} {s0:Shared} {H0:Hp} {E:XK} {k:Nat} (hr:Room k (A.deeper (envOfC qual scope s0.heap.objs.size f cd))) :
  RaiseOk (cxOf (CXE P w) P w K mg base N qual scope f cd A outer s0 H0 E) E:=⟨hr.hd,fun _ _ _ _ _ _ _ _ I mk hE=>raise_cx I mk hE⟩
theorem Fun.okX {x qual:Str} {st:Stmt} {f:Addr} {fd:FuncData} {N ps:List Str} {k:Nat} {sp:Sp} (F:Fun K x qual st f fd) (S:FnScope N ps (defScope st)) (len:∀ vs H Q E,sp vs H Q E->vs.length=ps.length)
  (hbody:∀ (cdv:Value) (A:Around) (outer:List Env) (s:Shared) (H:Hp) (vs:List V) (Q:VK) (E:XK),Room k (A.deeper (envOfC qual (defScope st) s.heap.objs.size f cdv))->sp vs H Q E ->
   ∃ t,PSs (cxOf (CXE P w) P w K mg base N qual (defScope st) f cdv A outer s H E) (defBody st) t/\t { nx:=fun _ H'=>Q .non H',rt:=Q } (start N vs) H):FnOk P w K mg base (CXE P w) (k + 1) f fd ps sp:=by
 obtain ⟨oc,od,kV,doc,pm,an,cdv,ct,osl,rfl,lk,hcd⟩:=F.ex
 exact fn_of lk hcd S len fun A outer s H vs Q E hr hsp=>hbody cdv A outer s H vs Q E hr hsp
end
section
variable {X:Cx} {k:Nat} {C:Addr} {ps:List Str} {sp:Sp} {E:XK} {x m:Str} {p pos apos:Pos} {o e:Expr} {es:List Expr} {ta:TE} {t:TA}
theorem pe_mkX (D:MkCal X.prog X.w X.K X.mg X.base (CXE X.prog X.w) k C x ps sp) (hx:Passes (CXE X.prog X.w) X E) (hr:Room (k + 1) X.A) (ha:PA X (e :: es) t) (hg:Gl X x:=by rfl)
  (hdb:(x == ("__debug__" : Str))=false:=by decide) (he:starEach (e :: es) X.env=(false,eval e X.env) :: starEach es X.env:=by rfl) (hpl:(backTo pos (starEach es X.env)).any (·.1)=false:=by rfl) :
  PE X (.Call (.Name x p) (e :: es) [] pos) (tMake C sp [] E t):=
 let ⟨_,_,F,M',hm,hb⟩:=D.ex
 pe_make M' F hr hg hm hb .nil hx ha hdb he hpl
end
end L2
namespace L2
open PySem PySem.Spec PyProof.Rows
def excP (C a:Addr):Heap->Prop:=fun h=>∃ (ob:Obj) (cells:Array Value),h.get? a=some ob/\ClsIs ob C/\ob.data=.fields cells/\cells[2]?=some .none
abbrev excO (C a:Addr):HO:=.ext (excP C a)
abbrev XB (X:Cx) (pn':List (Addr × Obj)) (xe':Value->Shared->Prop):Cx:={ X with pn:=pn',xe:=xe' }
abbrev XH (X:Cx) (pn':List (Addr × Obj)) (a:Addr):Cx:={ X with pn:=pn',A:=X.A.mark (some (.ref a)),calm:=false,xe:=fun _ _=>False }
section
variable {X:Cx} {pins:List (Addr × Obj)} {σ:St} {H:Hp} {s:Shared}
theorem Inv.toB (I:Inv X pins σ H s) (xe':Value->Shared->Prop):Inv (XB X (X.pn ++ pins) xe') [] σ H s:=
 ⟨⟨I.ok.mod,I.ok.kind,I.ok.glob,I.ok.blt,I.ok.above,I.ok.inj,I.ok.has,I.ok.cab,I.ok.hd,I.ok.frames,I.ok.stk,I.ok.exf,I.ok.bs,I.ok.bsz,I.ok.noex,I.ok.exfs,I.ok.funs,I.ok.frf⟩,
  I.os,I.bare,I.base,I.loc,I.cell,I.free,I.freeC,fun p hp=>I.pin p (by simpa using hp),I.hok,I.len⟩
theorem Inv.ofB {pins':List (Addr × Obj)} {xe':Value->Shared->Prop} (I:Inv (XB X (X.pn ++ pins) xe') pins' σ H s):Inv X pins σ H s:=
 ⟨⟨I.ok.mod,I.ok.kind,I.ok.glob,I.ok.blt,I.ok.above,I.ok.inj,I.ok.has,I.ok.cab,I.ok.hd,I.ok.frames,I.ok.stk,I.ok.exf,I.ok.bs,I.ok.bsz,I.ok.noex,I.ok.exfs,I.ok.funs,I.ok.frf⟩,
  I.os,I.bare,I.base,I.loc,I.cell,I.free,I.freeC,fun p hp=>I.pin p (List.mem_append_left _ hp),I.hok,I.len⟩
theorem Inv.toH (I:Inv X pins σ H s) (a:Addr):Inv (XH X (X.pn ++ pins) a) [] σ H s:=
 ⟨⟨I.ok.mod,I.ok.kind,I.ok.glob,I.ok.blt,I.ok.above,I.ok.inj,I.ok.has,I.ok.cab,(fun z=>by cases z),I.ok.frames,I.ok.stk,I.ok.exf,I.ok.bs,I.ok.bsz,I.ok.noex,I.ok.exfs,I.ok.funs,I.ok.frf⟩,
  I.os,I.bare,I.base,I.loc,I.cell,I.free,I.freeC,fun p hp=>I.pin p (by simpa using hp),I.hok,I.len⟩
theorem Inv.ofH {a:Addr} {pins':List (Addr × Obj)} {σ0:St} {H0:Hp} {s0:Shared} (I0:Inv X pins σ0 H0 s0) (I:Inv (XH X (X.pn ++ pins) a) pins' σ H s):Inv X pins σ H s:=
 ⟨I0.ok,I.os,I.bare,I.base,I.loc,I.cell,I.free,I.freeC,fun p hp=>I.pin p (List.mem_append_left _ hp),I.hok,I.len⟩
theorem Inv.lose {h':Heap} {m':Str->Option Value} (I:Inv X pins σ H s) (sb:Heap.SameBut X.env.locals s.heap h') (hn:h'.Ns X.env.locals m'):Inv X pins (List.replicate X.N.length none) H { s with heap:=h' }:=by
 have same:∀ b,b ≠ X.env.locals->h'.get? b=s.heap.get? b:=fun b hb=>sb.2 b hb
 have neL:∀ b o,X.s₀.heap.get? b=some o->b ≠ X.env.locals:=fun b o q=>Nat.ne_of_lt (Nat.lt_of_lt_of_le (Heap.lt_size q) I.ok.above)
 refine ⟨I.ok,I.os,I.bare,⟨fun b o q n nb nx=>(same b (neL b o q)).trans (I.base.keep b o q n nb nx),fun b o q n hb nx=>?_,I.base.free,fun b o q nx=>?_,I.base.tups,I.base.frzs,I.base.tbls⟩,⟨m',hn,fun i x v e1 e2 _=>?_⟩,fun x c e=>?_,I.free,I.freeC,fun p hp=>?_,fun b o q=>?_,by simp⟩
 ·obtain ⟨sl,z⟩:=I.base.slot b o q n hb nx
  exact ⟨sl,(same b (neL b o q)).trans z⟩
 ·obtain ⟨o',z⟩:=I.base.there b o q nx
  exact ⟨o',(same b (neL b o q)).trans z⟩
 ·rw [List.getElem?_replicate] at e2
  split at e2 <;> cases e2
 ·obtain ⟨v,o,q,d⟩:=I.cell x c e
  exact ⟨v,o,(same c (I.cne x c e)).trans q,d⟩
 ·obtain ⟨e,n,ne,nf,d⟩:=I.pin p hp
  exact ⟨(same _ ne).trans e,n,ne,nf,d⟩
 ·refine (I.hok b o q).stay (fun c u hc z=>(same c fun y=>?_).trans z) (fun _ z=>z) fun _ _ z=>z
  have f0:=I.free
  rcases hc with r | r
  ·rw [<- r,y,f0] at q;cases q
  ·rw [y,f0] at r;cases r
end
theorem Inv.caught {X:Cx} {pins:List (Addr × Obj)} {σ:St} {H H':Hp} {s s1:Shared} {a C:Addr} {B h4:Heap} (I:Inv X pins σ H s) (os:s1.os=s.os) (bare:AllBare s1.gens) (u:Un (frs X.stack) [] H H' s.heap s1.heap)
  (hok:HOk X.prog X.w H' s1.heap) (F:Fly B X.stack a C .none s1.heap) (cov:∀ c,H' c ≠ none->∃ v,B.get? c=some v) (cov2:∀ b o,s.heap.get? b=some o->H b=none->b ∉ frs X.stack->B.get? b=some o)
  (cov3:∀ b o,s.heap.get? b=some o->b ∉ frs X.stack->∃ o',B.get? b=some o') (F4:Fly B X.stack a C .none h4) (up:s1.heap.UpToSlots h4) :
  H' a=none/\Inv X pins σ (upd H' a (excO C a)) { s1 with heap:=h4 }:=by
 have ha:H' a=none:=by
  cases q:H' a with
  | none=>rfl
  | some o=>
   obtain ⟨v,hv⟩:=cov a (by rw [q];intro z;cases z)
   rw [F.2.1] at hv;cases hv
 have nfr:a ∉ frs X.stack:=fun z=>by
  obtain ⟨ob,cells,tb,ot,tcs,q1,_,q2,_⟩:=F.2.2.2
  exact nonf F.2.2.1 z q1 cells q2
 have new:∀ b o,s.heap.get? b=some o->b ≠ a:=fun b o q z=>by
  subst z
  obtain ⟨o',q'⟩:=cov3 b o q nfr
  rw [F.2.1] at q';cases q'
 have ne:∀ b o,H' b=some o->b ≠ a:=fun b o q z=>by rw [z,ha] at q;cases q
 have upf:∀ b o,b ∈ frs X.stack->s1.heap.get? b=some o->∃ sl,h4.get? b=some { o with slots:=sl }:=fun b o hb q=>up b o q (nonf F.2.2.1 hb q)
 refine ⟨ha,I.call' (s':={ s1 with heap:=h4 }) (ch:=[]) os ⟨fun b o q n nb _=>F4.1 b o (cov2 b o q n nb),fun b o q n hb nx=>?_,fun b o q n nx=>?_,fun b o q nx=>?_,fun b xs q=>?_,fun b o v q=>?_,fun b ps q=>?_⟩ (fun b o q=>?_) bare fun b hb=>absurd hb List.not_mem_nil⟩
 ·obtain ⟨sl,q1⟩:=u.slot b o q n hb nx
  obtain ⟨sl2,q2⟩:=upf b _ hb q1
  exact ⟨sl2,q2⟩
 ·rw [upd_ne (new b o q)];exact u.free b o q n nx
 ·by_cases hb:b ∈ frs X.stack
  ·obtain ⟨o',q1⟩:=u.there b o q nx
   obtain ⟨sl2,q2⟩:=upf b _ hb q1
   exact ⟨_,q2⟩
  ·obtain ⟨o',q1⟩:=cov3 b o q hb
   exact ⟨o',F4.1 b o' q1⟩
 ·have q1:=u.tups b xs q
  rw [upd_ne (ne b _ q1)];exact q1
 ·have q1:=u.frzs b o v q
  rw [upd_ne (ne b _ q1)];exact q1
 ·obtain ⟨more,q1⟩:=u.tbls b ps q
  exact ⟨more,by rw [upd_ne (ne b _ q1)];exact q1⟩
 ·by_cases hb:b=a
  ·subst hb
   rw [upd_same] at q
   cases q
   obtain ⟨ob,cells,tb,ot,tcs,q1,q2,q3,q4,_⟩:=F4.2.2.2
   refine ⟨⟨ob,cells,q1,q2,q3,q4⟩,⟨ob,q1⟩,fun h1 h2 ⟨o1,c1,r1,r2,r3,r4⟩ k=>⟨o1,c1,k o1 r1,r2,r3,r4⟩⟩
  ·rw [upd_ne hb] at q
   have z:=(hok.air F.1 F4.1 cov) b o q
   exact z.stay (fun c v _ z=>z) (fun c z=>by rw [upd_ne (ne c _ z)];exact z) fun c xs z=>by rw [upd_ne (ne c _ z)];exact z
end L2
namespace L2
open PySem PySem.Spec PyProof.Rows PySem.W
structure ExcK (K:Frag) (C:Addr):Prop where
 ga:findIn K (.ref C) "__getattribute__"=some (some (.builtin "BaseException.__getattribute__"))
 gt:findIn K (.ref C) "__getattr__"=some none
 ca:findIn K (.ref C) "__class__"=some (some (.builtin "object.__class__"))
 sg:specialIn K (.builtin "object.__class__") "__get__"=some (some (.builtin "getset_descriptor.__get__"))
 tk:takesIn K (.builtin "object.__class__")=some true
 mo:mroIn K C (.type "object")=some true
 hd:hasDictIn K C=true
 be:subIn K (.ref C) (.type "BaseException")=some true
section
variable {prog:Program} {w:World} {A:Around} {E:Value->Shared->Prop} {K:Frag} {x C:Addr} {ox:Obj} {h:Heap} {g:Array GenState} {d:Drawn} {t:Nat} {os:OsState}
theorem exc_find (k:ExcK K C):findObj K C none "__class__"=some (.bind (.builtin "getset_descriptor.__get__") (.builtin "object.__class__")):=by
 obtain ⟨cd,hc,_⟩:=any_some k.hd
 unfold findObj
 rw [hc,Option.bind_some,k.ca,Option.bind_some]
 simp [k.sg,k.tk]
theorem class_entry_exc {tok:Tok} {Q:Fin->Shared->Prop} (k:ExcK K C) (X:K.In h) (I:InstAt h x ox C none) (hq:Q (.done (.ret (.ref C))) ⟨h,g,d,t,os⟩) :
  wpAny (model prog w) A (Builtin.«object.__getattribute__» ⟨[.ref x,.str "__class__" tok],[]⟩) Q E ⟨h,g,d,t,os⟩:=by
 have L0:=I.type (M:=model prog w)
 have L1:=looks_find (M:=model prog w) X I (exc_find k)
 unfold Builtin.«object.__getattribute__»
 repeat (any_goals (first | assumption | with_reducible refine L0.at ?_ | with_reducible refine L1.at ?_ | wp_step))
 exact class_get (s:=⟨h,g,d,t,os⟩) X I k.mo (wpAny_pure hq)
theorem check_ga_exc {M:Model} {nameV:Value} {Q:Unit->Shared->Prop} (k:ExcK K C) (X:K.In h) (I:InstAt h x ox C none) (hq:Q () ⟨h,g,d,t,os⟩) :
  wpAny M A (checkBuiltinCall "BaseException.__getattribute__" ⟨[.ref x,nameV],[]⟩) Q E ⟨h,g,d,t,os⟩:=by
 have kd:builtinKind "BaseException.__getattribute__"=some .slot:=by decide +kernel
 have sp:splitId "BaseException.__getattribute__"=some ("BaseException","__getattribute__"):=by decide +kernel
 have LI:Looks M h (isInstance (.ref x) (.type "BaseException")) true:=(I.type (M:=M)).andThen (looks_subIn X k.be)
 have ar:=F.args_bexc_ga (.ref x) nameV
 simp only [checkBuiltinCall,kd,sp]
 refine wpAny_bind (LI.at ?_)
 repeat (any_goals (first | assumption | wp_step))
theorem class_call_exc {tok:Tok} {R:Result->Shared->Prop} (k:ExcK K C) (X:K.In h) (I:InstAt h x ox C none) (hq:R (.ok (.ret (.ref C))) ⟨h,g,d,t,os⟩) :
  codeAny (model prog w) A (.call (.builtin "BaseException.__getattribute__") ⟨[.ref x,.str "__class__" tok],[]⟩) R ⟨h,g,d,t,os⟩:=
 codeAny_call_builtin F.attrBase_ValueError.ga.plain F.entry_bexc_ga (check_ga_exc k X I (class_entry_exc k X I hq))
theorem class_by_exc {tok:Tok} {Q:Value->Shared->Prop} (k:ExcK K C) (X:K.In h) (I:InstAt h x ox C none) (hq:Q (.ref C) ⟨h,g,d,t,os⟩) :
  wpAny (model prog w) A (getAttrBy (.ref x) (.str "__class__" tok) false) Q E ⟨h,g,d,t,os⟩:=by
 have f3:=F.attrBase_ValueError.ga.bind (.ref x)
 have x2:(Value.builtin "BaseException.__getattribute__" == Value.builtin "object.__getattribute__")=false:=by decide +kernel
 have x1:(onTheHeap (Value.ref C) && Value.builtin "BaseException.__getattribute__" == Value.builtin "object.__getattribute__")=false:=by rw [x2];rfl
 have L0:=I.type (M:=model prog w)
 have L1:=looks_findIn (M:=model prog w) X k.ga
 have L2:=looks_findIn (M:=model prog w) X k.gt
 repeat (any_goals (first | assumption | with_reducible refine L0.at ?_ | with_reducible refine L1.at ?_ | with_reducible refine L2.at ?_ | wp_step))
 refine class_call_exc k X I ?_
 repeat (any_goals (first | assumption | wp_step))
theorem class_attr_exc {Q:Option Value->Shared->Prop} (k:ExcK K C) (X:K.In h) (I:InstAt h x ox C none) (hq:Q (some (.ref C)) ⟨h,g,d,t + 1,os⟩) :
  wpAny (model prog w) A (getAttr? (.ref x) "__class__") Q E ⟨h,g,d,t,os⟩:=by
 unfold getAttr? getAttrBy?
 repeat (any_goals (first | assumption | with_reducible apply class_by_exc k X I | wp_step))
theorem kitx_exc (k:ExcK K C):KitX K (.ref x) (.ref C) (fun h=>∃ ox,InstAt h x ox C none) where
 ty:=fun _ _ _ ⟨_,I⟩=>I.type
 it:=fun _ _ X _=>by
  obtain ⟨cd,hc,_⟩:=any_some k.hd
  unfold clsIn at hc
  split at hc
  ·rename_i c1 d1 cd1 sl1 hk
   intro A' Q' E' s' kk q
   unfold isType loadHead
   exact wpAny_bind (wpAny_loadPart (kk _ _ (X _ _ hk)) (wpAny_pure q))
  ·cases hc
 ne:=fun h tp dd its n sl X htp=>by
  obtain ⟨cd,hc,_⟩:=any_some k.hd
  refine Bool.eq_false_iff.mpr fun q=>?_
  have e1:C=tp:=Value.ref.inj (beq_iff_eq.mp q)
  subst e1
  unfold clsIn at hc
  split at hc
  ·rename_i c1 d1 cd1 sl1 hk
   cases ((X _ _ hk).symm.trans htp)
  ·cases hc
 ca:=fun {_ _ _ _ _ s} X ⟨ox,I⟩ hq=>by
  obtain ⟨h,g,d,t,os⟩:=s
  exact class_attr_exc k X I hq
end
section
variable {X:Cx}
theorem exc_inst {C a:Addr} {h:Heap} (p:excP C a h):∃ ox,InstAt h a ox C none:=by
 obtain ⟨ob,cells,q1,⟨q2,q3⟩,q4,_⟩:=p
 refine ⟨ob,q1,q2,?_,?_⟩
 ·unfold notCls
  rw [q4]
 ·rw [q3];trivial
def rIsE (K:Frag) (c:V) (cv:Value):List V->Hp->VK->Prop:=fun xs H Q=>∃ a C b,xs=[.ref a,c]/\H a=some (excO C a)/\ExcK K C/\kitOne K (.ref C) cv=some b/\Q (.bl b) H
theorem call_isE {D:Addr}:CallR X (.builtin "isinstance") (rIsE X.K (.ref D) (.ref D)):=by
 intro pins s σ H xs us Q I r h
 obtain ⟨a,C,b,rfl,ha,k,e,q⟩:=h
 obtain ⟨u,v,rfl,ru,rv⟩:=r.two
 cases ru;cases rv
 obtain ⟨p,_,_⟩:=(show ObjOk X.prog X.w H s.heap a (excO C a) from I.hok a _ ha)
 exact kia_one (kitx_exc k) I.kIn (exc_inst p) e (fun z=>nomatch z) fun tk=>⟨.bl b,H,I.tok tk,rfl,q⟩
theorem call_isET {T:String}:CallR X (.builtin "isinstance") (rIsE X.K (.ty T) (.type T)):=by
 intro pins s σ H xs us Q I r h
 obtain ⟨a,C,b,rfl,ha,k,e,q⟩:=h
 obtain ⟨u,v,rfl,ru,rv⟩:=r.two
 cases ru;cases rv
 obtain ⟨p,_,_⟩:=(show ObjOk X.prog X.w H s.heap a (excO C a) from I.hok a _ ha)
 exact kia_one (kitx_exc k) I.kIn (exc_inst p) e (fun z=>nomatch z) fun tk=>⟨.bl b,H,I.tok tk,rfl,q⟩
end
end L2
namespace L2
open PySem PySem.Spec PyProof.Rows
section
variable {prog:Program} {w:World} {A:Around} {E:Value->Shared->Prop} {s:Shared}
end
section
variable {X:Cx} {tg:Expr} {hx:Addr}
end
end L2
namespace L2
open PySem PySem.Spec PyProof.Rows
section
variable {X:Cx} {es es1:List Expr} {t t1:TA}
theorem swL {es:List Expr} {p:Pos} {t:Option Expr} {n:Nat} {env:Env}:swapsWith (.List es p) t n env=pure false:=rfl
inductive CV:Expr->V->Prop
 | str {z:Str} {j p}:CV (.Constant (.str z) j p) (.str z)
 | int {z:Int} {j p}:CV (.Constant (.int z) j p) (.int z)
 | bl {z:Bool} {j p}:CV (.Constant (.bool z) j p) (.bl z)
 | non {j p}:CV (.Constant .none j p) .non
inductive CVs:List Expr->List V->Prop
 | nil:CVs [] []
 | cons {e:Expr} {v:V} {es:List Expr} {vs:List V} (h:CV e v) (t:CVs es vs):CVs (e :: es) (v :: vs)
def tRun (vs:List V) (t:TA):TA:=fun σ H Q=>t σ H (fun xs H1=>Q (vs ++ xs) H1)
theorem pa_run0 (h:PA X es t) {cs:List Expr} {vs:List V} (h0:CVs cs vs):PA X (cs ++ es) (tRun vs t):=by
 induction h0 with
 | nil=>exact h
 | cons c _ ih=>
  cases c with
  | str=>exact pa_cons pe_str ih
  | int=>exact pa_cons pe_int ih
  | bl=>exact pa_cons pe_bl ih
  | non=>exact pa_cons pe_non ih
theorem ps_setL {i:Nat} {x:Str} {pos pos' lp:Pos} (hN:X.N.Nodup) (hi:X.N[i]?=some x) (hx:Loc X.env.scope x) (hf:X.fn x=true \/ X.env.scope.names.lookup x=some .local) (h:PA X es t) :
  PS X (.Assign [.Name x pos'] (.List es lp) pos) (tAsg (tLst t) (gName i)):=ps_set hN hi hx (pe_lst h) swL hf
def tAll (vs:List V):TA:=fun _ H Q=>Q vs H
theorem pa_all {vs:List V} (h:CVs es vs):PA X es (tAll vs):=by
 have z:=pa_run0 (X:=X) pa_nil h
 have e:tRun vs tNil=tAll vs:=by
  funext σ H Q
  show Q (vs ++ []) H=Q vs H
  rw [List.append_nil]
 rwa [List.append_nil,e] at z
end
end L2
namespace L2
open PySem PySem.Spec PyProof.Rows
section
variable {X:Cx}
end
end L2
namespace L2
open PySem PySem.Spec PyProof.Rows PySem.Builtin.Str
def repS (x:Str) (n:Int):Str:=⟨(List.replicate n.toNat x.cps).foldl (· ++ ·) #[]⟩
theorem rep_len (a:Array Nat):∀ (n:Nat) (acc:Array Nat),((List.replicate n a).foldl (· ++ ·) acc).size=acc.size + n * a.size
 | 0,acc=>by simp
 | n + 1,acc=>by
  rw [List.replicate_succ,List.foldl_cons,rep_len a n]
  rw [Array.size_append,Nat.succ_mul]
  omega
theorem repS_len (x:Str) (n:Int):(repS x n).length=n.toNat * x.length:=by
 show ((List.replicate n.toNat x.cps).foldl (· ++ ·) #[]).size=_
 rw [rep_len]
 simp [Str.length]
def rMulS:R2:=fun x y H Q=>∃ z n,x=.str z/\y=.int n/\1 < n/\1 <= z.length/\z.length * n.toNat <= 100000/\Q (.str (repS z n)) H
theorem op_mulS {X:Cx}:OpR X (binaryOp .Mult) rMulS:=by
 intro pins s σ H x y v u Q I rx ry h
 obtain ⟨z,n,rfl,rfl,hn,hz,hl,q⟩:=h
 obtain ⟨t,rfl⟩:=rx
 obtain ⟨t',rfl⟩:=ry
 have hm:n.toNat <= 100000:=Nat.le_trans (Nat.le_mul_of_pos_left _ hz) hl
 have hz2:z.length <= 100000:=Nat.le_trans (Nat.le_mul_of_pos_right _ (by omega)) hl
 refine P.mul_str ?_ (fun _ _=>?_) (fun _ _=>?_) ?_
 ·simp;omega
 ·have:(z.length:Int) <= 100000:=by omega
  have h2:(100000:Int) <= (2 ^ 63 - 1) / n:=by
   rw [Int.le_ediv_iff_mul_le (by omega)]
   have:n <= 100000:=by omega
   omega
  omega
 ·unfold tooLong
  simp only [decide_eq_false_iff_not]
  rw [sizeLine_eq]
  omega
 ·rw [if_neg (by omega),if_neg (by simp;omega)]
  refine ⟨?_,.str (repS z n),H,I.tok _,⟨_,rfl⟩,q⟩
  show (repS z n).length <= sizeLine
  rw [repS_len,sizeLine_eq,Nat.mul_comm]
  omega
end L2
namespace PySem.SeqAt
open AutoSeq1 (wpAny_loadPart')
open MeetsSeq
end PySem.SeqAt
namespace L2
open PySem PySem.Spec PyProof.Rows
section
variable {X:Cx}
end
end L2
namespace HT
open PySem PySem.Spec PyProof.Rows L2
section
variable {prog:Program} {w:World} {A:Around} {E:Value->Shared->Prop} {s:Shared}
end
end HT
namespace L2
open PySem PySem.Spec PyProof.Rows
end L2
namespace L2
open PySem PySem.Spec PyProof.Rows
section
variable {X:Cx} {e:Expr} {te:TE} {pos p1 p2 p3:Pos} {j1:Nat}
def tBack (K:PySem.W.Frag) (te:TE):TE:=fun σ H Q=>te σ H fun x H1=>∃ a xs,x=.ref a/\SqL K H1 a xs/\∀ p,H1 p=none->Q (.ref p) (upd H1 p (.lst xs.reverse))
theorem rev_of {xs:List V} {us:List Value} (r:Vals xs us):Vals xs.reverse us.reverse:=by
 induction r with
 | nil=>exact .nil
 | cons r _ ih=>rw [List.reverse_cons,List.reverse_cons];exact ih.append (.cons r .nil)
theorem pe_m1:PE X (.UnaryOp .USub (.Constant (.int 1) j1 p1) p3) (fun _ H Q=>Q (.int (-1)) H):=by
 intro pins s σ H Q I h
 exact (pe_un un_neg pe_int) pins s σ H Q I ⟨1,rfl,h⟩
theorem pe_back (he:PE X e te):PE X (.Subscript e (.Slice none none (some (.UnaryOp .USub (.Constant (.int 1) j1 p1) p3)) p2) pos) (tBack X.K te):=by
 intro pins s σ H Q I h
 refine Subscript_ (thn (he pins s σ H _ I h) fun v s1 hz58=>?_)
 obtain ⟨x,H1,I1,r1,q1⟩:=hz58
 refine wpAny_Slice ?_
 rw [evalPart_none]
 refine wpAny_pure (wpAny_pure ?_)
 refine thn ((po_some (pe_m1 (X:=X) (j1:=j1) (p1:=p1) (p3:=p3))) pins s1 σ H1 (fun o H2=>o=some (-1)/\H2=H1) I1 ⟨-1,rfl,rfl,rfl⟩) fun vs s3 hz59=>?_
 obtain ⟨o,H3,I3,ps,e1,e2⟩:=hz59
 subst e1 e2
 obtain ⟨a,xs,rfl,hx,q⟩:=q1
 cases r1
 have I4:Inv X pins σ H3 { s3 with heap:=s3.heap.push { cls:=.type "slice",data:=.fields #[.none,.none,vs] } }:=I3.kept (t':=s3.toks) fun b ob q=>Heap.get?_push_of_some _ q
 obtain ⟨its,r,ht,hz⟩:=I4.list hx
 have hlen:=r.length
 show wpAny (model X.prog X.w) X.A (subscriptTail e (.Slice none none (some (.UnaryOp .USub (.Constant (.int 1) j1 p1) p3)) p2) (.ref a) (.ref s3.heap.objs.size)) (EP X pins σ Q) X.xe { s3 with heap:=s3.heap.push { cls:=.type "slice",data:=.fields #[.none,.none,vs] } }
 refine tail_any (ops:=[.ref a,.ref s3.heap.objs.size]) ht.isList.typeIs slot_list_getitem.lookup ?_ (by with_unfolding_all rfl)
 refine wpAny_getItem_list_slice ht.isList (Heap.IsSliceOf.new ..) .none .none ps (by simp) ?_ (by rw [List.size_toArray] <;> omega)
 rw [PySem.W.krv_pick]
 have I5:=I4.laid (t':=s3.toks) (o:=.lst xs.reverse) (fun b ob q=>Heap.get?_push_of_some { cls:=.type "list",data:=.seq its.reverse.toArray } q) (Nat.le_refl _) ?_
 ·exact ⟨.ref _,_,I5,rfl,q _ (I4.hok.fresh (Nat.le_refl _))⟩
 ·exact ⟨by rw [List.length_reverse];exact hz,_,0,rev_of r,Heap.get?_push_size _ rfl⟩
end
end L2
namespace L2
open PySem PySem.Spec PyProof.Rows PySem.W
def evK {α:Type} (lt:Nat->Nat->Bool):KasT α->α
 | .ret a=>a
 | .ask i j k=>evK lt (k (lt i j))
theorem evK_bind {α β:Type} (lt:Nat->Nat->Bool) (f:α->KasT β) (t:KasT α):evK lt (t.bind f)=evK lt (f (evK lt t)):=by
 induction t with
 | ret a=>rfl
 | ask i j k ih=>exact ih (lt i j)
structure LtO (lt:Nat->Nat->Bool):Prop where
 asym:∀ i j,lt i j=true->lt j i=false
 trn:∀ i j k,lt j i=false->lt k j=false->lt k i=false
section
variable {lt:Nat->Nat->Bool}
abbrev gA (p:Array Nat) (i:Nat):Nat:=p.getD i 0
def leK (lt:Nat->Nat->Bool) (i j:Nat):Prop:=lt j i=false
def Up (lt:Nat->Nat->Bool) (p:Array Nat) (k:Nat):Prop:=∀ i j,i <= j->j < k->leK lt (gA p i) (gA p j)
def Dn (lt:Nat->Nat->Bool) (p:Array Nat) (k:Nat):Prop:=∀ i j,i <= j->j < k->leK lt (gA p j) (gA p i)
theorem leK_refl (O:LtO lt) (i:Nat):leK lt i i:=by
 unfold leK
 cases e:lt i i with
 | false=>rfl
 | true=>exact absurd (O.asym i i e) (by rw [e];simp)
theorem leK_trans (O:LtO lt) {i j k:Nat} (a:leK lt i j) (b:leK lt j k):leK lt i k:=O.trn i j k a b
theorem leK_of (O:LtO lt) {i j:Nat} (h:lt i j=true):leK lt i j:=O.asym i j h
theorem gA_rev {p:Array Nat} {i j:Nat} (hj:j <= p.size) (k:Nat):gA (kas_rev p i j) k=if i <= k/\k < j then gA p (i + j - 1 - k) else gA p k:=by
 unfold gA kas_rev
 rw [Array.getD_eq_getD_getElem?,Array.getD_eq_getD_getElem?,Array.getD_eq_getD_getElem?,getElem?_mirror_all hj]
 split <;> rfl
theorem gA_bub {p:Array Nat} {k l:Nat} (hk:k < p.size) (hl:l <= k) (x:Nat):gA (bubble p k (k - l)) x=if x=l then gA p k else if l < x/\x <= k then gA p (x - 1) else gA p x:=by
 unfold gA
 rw [Array.getD_eq_getD_getElem?,Array.getD_eq_getD_getElem?,Array.getD_eq_getD_getElem?,Array.getD_eq_getD_getElem?,getElem?_bubble hk (k - l) (by omega)]
 rw [show k - (k - l)=l by omega]
 repeat' split
 all_goals first | rfl | omega
theorem rev_size (p:Array Nat) (i j:Nat):(kas_rev p i j).size=p.size:=mirror_size _ _ _ _
theorem rev_perm (p:Array Nat) (i j:Nat):(kas_rev p i j).Perm p:=mirror_perm _ _ _ _
theorem up_one (O:LtO lt) (p:Array Nat):Up lt p 1:=fun i j h1 h2=>by
 have:i=j:=by omega
 rw [this];exact leK_refl O _
theorem Up.more (O:LtO lt) {p:Array Nat} {n:Nat} (h:Up lt p n) (h1:1 <= n) (e:leK lt (gA p (n - 1)) (gA p n)):Up lt p (n + 1):=fun i j hij hj=>by
 by_cases hn:j < n
 ·exact h i j hij hn
 ·have ej:j=n:=by omega
  subst ej
  by_cases hi:i < j
  ·exact leK_trans O (h i (j - 1) (by omega) (by omega)) e
  ·have:i=j:=by omega
   rw [this];exact leK_refl O _
theorem Dn.more (O:LtO lt) {p:Array Nat} {n:Nat} (h:Dn lt p n) (h1:1 <= n) (e:leK lt (gA p n) (gA p (n - 1))):Dn lt p (n + 1):=fun i j hij hj=>by
 by_cases hn:j < n
 ·exact h i j hij hn
 ·have ej:j=n:=by omega
  subst ej
  by_cases hi:i < j
  ·exact leK_trans O e (h i (j - 1) (by omega) (by omega))
  ·have:i=j:=by omega
   rw [this];exact leK_refl O _
theorem asc_ev (O:LtO lt) (p:Array Nat):∀ (f n:Nat),1 <= n->Up lt p n->n <= evK lt (kas_asc p f n)/\evK lt (kas_asc p f n) <= n + f/\Up lt p (evK lt (kas_asc p f n)) /\
  (evK lt (kas_asc p f n) < n + f->lt (gA p (evK lt (kas_asc p f n))) (gA p (evK lt (kas_asc p f n) - 1))=true):=by
 intro f
 induction f with
 | zero=>exact fun n h1 h=>⟨Nat.le_refl _,Nat.le_refl _,h,fun z=>absurd z (Nat.lt_irrefl _)⟩
 | succ f ih=>
  intro n h1 h
  have e:evK lt (kas_asc p (f + 1) n)=evK lt (if lt (gA p n) (gA p (n - 1))=true then .ret n else kas_asc p f (n + 1)):=rfl
  rw [e]
  cases c:lt (gA p n) (gA p (n - 1)) with
  | true=>
   rw [if_pos rfl]
   exact ⟨Nat.le_refl _,Nat.le_add_right _ _,h,fun _=>c⟩
  | false=>
   rw [if_neg (by simp)]
   obtain ⟨a1,a2,a3,a4⟩:=ih (n + 1) (by omega) (h.more O h1 c)
   exact ⟨by omega,by omega,a3,fun z=>a4 (by omega)⟩
def EqS (lt:Nat->Nat->Bool) (p:Array Nat) (n q:Nat):Prop:=∀ i,n - (q + 1) <= i->i < n->leK lt (gA p i) (gA p (n - 1))/\leK lt (gA p (n - 1)) (gA p i)
theorem rev_eqv (O:LtO lt) {p:Array Nat} {n q:Nat} (hn:n <= p.size) (hq:q + 1 <= n) (h:EqS lt p n q) (x:Nat):leK lt (gA (kas_rev p (n - (q + 1)) n) x) (gA p x)/\leK lt (gA p x) (gA (kas_rev p (n - (q + 1)) n) x):=by
 rw [gA_rev hn]
 split
 ·next hx=>
  obtain ⟨a1,a2⟩:=h x hx.1 hx.2
  obtain ⟨b1,b2⟩:=h (n - (q + 1) + n - 1 - x) (by omega) (by omega)
  exact ⟨leK_trans O b1 a2,leK_trans O a1 b2⟩
 ·exact ⟨leK_refl O _,leK_refl O _⟩
theorem dn_rev (O:LtO lt) {p:Array Nat} {n q k:Nat} (hn:n <= p.size) (hq:q + 1 <= n) (h:EqS lt p n q) (d:Dn lt p k):Dn lt (kas_rev p (n - (q + 1)) n) k:=fun i j hij hj=>
 leK_trans O (rev_eqv O hn hq h j).1 (leK_trans O (d i j hij hj) (rev_eqv O hn hq h i).2)
theorem desc_ev (O:LtO lt):∀ (f:Nat) (p:Array Nat) (n q:Nat),q + 1 <= n->n + f <= p.size->Dn lt p n->EqS lt p n q ->
  (evK lt (kas_desc f p n q)).1.Perm p/\n <= (evK lt (kas_desc f p n q)).2.1/\(evK lt (kas_desc f p n q)).2.1 <= n + f/\Dn lt (evK lt (kas_desc f p n q)).1 (evK lt (kas_desc f p n q)).2.1 /\
  (evK lt (kas_desc f p n q)).2.2 + 1 <= (evK lt (kas_desc f p n q)).2.1/\EqS lt (evK lt (kas_desc f p n q)).1 (evK lt (kas_desc f p n q)).2.1 (evK lt (kas_desc f p n q)).2.2:=by
 intro f
 induction f with
 | zero=>exact fun p n q h1 h2 h3 h4=>⟨.refl _,Nat.le_refl _,Nat.le_refl _,h3,h1,h4⟩
 | succ f ih=>
  intro p n q h1 h2 h3 h4
  have e:evK lt (kas_desc (f + 1) p n q)=evK lt (if lt (gA p n) (gA p (n - 1))=true then (if q > 0 then kas_desc f (kas_rev p (n - (q + 1)) n) (n + 1) 0 else kas_desc f p (n + 1) 0)
   else .ask (gA p (n - 1)) (gA p n) fun d=>if d=true then .ret (p,n,q) else kas_desc f p (n + 1) (q + 1)):=rfl
  rw [e]
  have one:∀ p:Array Nat,EqS lt p (n + 1) 0:=fun p i h1 h2=>by
   have:i=n + 1 - 1:=by omega
   rw [this];exact ⟨leK_refl O _,leK_refl O _⟩
  cases c:lt (gA p n) (gA p (n - 1)) with
  | true=>
   rw [if_pos rfl]
   have d1:=h3.more O (by omega) (leK_of O c)
   by_cases hq:q > 0
   ·rw [if_pos hq]
    obtain ⟨a1,a2,a3,a4,a5,a6⟩:=ih (kas_rev p (n - (q + 1)) n) (n + 1) 0 (by omega) (by rw [rev_size];omega) (dn_rev O (by omega) h1 h4 d1) (one _)
    exact ⟨a1.trans (rev_perm _ _ _),by omega,by omega,a4,a5,a6⟩
   ·rw [if_neg hq]
    obtain ⟨a1,a2,a3,a4,a5,a6⟩:=ih p (n + 1) 0 (by omega) (by omega) d1 (one _)
    exact ⟨a1,by omega,by omega,a4,a5,a6⟩
  | false=>
   rw [if_neg (by simp)]
   show (evK lt (if lt (gA p (n - 1)) (gA p n)=true then .ret (p,n,q) else kas_desc f p (n + 1) (q + 1))).1.Perm p/\_
   show _/\n <= (evK lt (if lt (gA p (n - 1)) (gA p n)=true then .ret (p,n,q) else kas_desc f p (n + 1) (q + 1))).2.1/\(evK lt (if lt (gA p (n - 1)) (gA p n)=true then .ret (p,n,q) else kas_desc f p (n + 1) (q + 1))).2.1 <= _/\Dn lt (evK lt (if lt (gA p (n - 1)) (gA p n)=true then .ret (p,n,q) else kas_desc f p (n + 1) (q + 1))).1 (evK lt (if lt (gA p (n - 1)) (gA p n)=true then .ret (p,n,q) else kas_desc f p (n + 1) (q + 1))).2.1/\(evK lt (if lt (gA p (n - 1)) (gA p n)=true then .ret (p,n,q) else kas_desc f p (n + 1) (q + 1))).2.2 + 1 <= (evK lt (if lt (gA p (n - 1)) (gA p n)=true then .ret (p,n,q) else kas_desc f p (n + 1) (q + 1))).2.1/\EqS lt (evK lt (if lt (gA p (n - 1)) (gA p n)=true then .ret (p,n,q) else kas_desc f p (n + 1) (q + 1))).1 (evK lt (if lt (gA p (n - 1)) (gA p n)=true then .ret (p,n,q) else kas_desc f p (n + 1) (q + 1))).2.1 (evK lt (if lt (gA p (n - 1)) (gA p n)=true then .ret (p,n,q) else kas_desc f p (n + 1) (q + 1))).2.2
   cases d:lt (gA p (n - 1)) (gA p n) with
   | true=>
    rw [if_pos rfl]
    exact ⟨.refl _,Nat.le_refl _,Nat.le_add_right _ _,h3,h1,h4⟩
   | false=>
    rw [if_neg (by simp)]
    have es:EqS lt p (n + 1) (q + 1):=fun i g1 g2=>by
     rw [Nat.add_sub_cancel]
     by_cases hi:i=n
     ·rw [hi];exact ⟨leK_refl O _,leK_refl O _⟩
     ·obtain ⟨b1,b2⟩:=h4 i (by omega) (by omega)
      exact ⟨leK_trans O b1 c,leK_trans O d b2⟩
    obtain ⟨a1,a2,a3,a4,a5,a6⟩:=ih p (n + 1) (q + 1) (by omega) (by omega) (h3.more O (by omega) d) es
    exact ⟨a1,by omega,by omega,a4,a5,a6⟩
theorem up_of_dn {p:Array Nat} {n:Nat} (hn:n <= p.size) (d:Dn lt p n):Up lt (kas_rev p 0 n) n:=fun i j hij hj=>by
 rw [gA_rev hn,gA_rev hn,if_pos ⟨Nat.zero_le _,by omega⟩,if_pos ⟨Nat.zero_le _,hj⟩]
 exact d _ _ (by omega) (by omega)
theorem tail_ev (O:LtO lt) {p:Array Nat} {n nrem:Nat} (h1:1 <= n) (hn:n <= nrem) (hz:nrem <= p.size) (d:Dn lt p n) :
  (evK lt (kas_tail3 n nrem p)).2.Perm p/\1 <= (evK lt (kas_tail3 n nrem p)).1/\(evK lt (kas_tail3 n nrem p)).1 <= nrem/\Up lt (evK lt (kas_tail3 n nrem p)).2 (evK lt (kas_tail3 n nrem p)).1:=by
 unfold kas_tail3
 rw [evK_bind]
 obtain ⟨a1,a2,a3,_⟩:=asc_ev O (kas_rev p 0 n) (nrem - n) n h1 (up_of_dn (by omega) d)
 exact ⟨rev_perm _ _ _,Nat.le_trans h1 a1,Nat.le_trans a2 (by omega),a3⟩
theorem descPart_ev (O:LtO lt) {p:Array Nat} {n nrem:Nat} (h1:1 <= n) (hn:n + 1 <= nrem) (hz:nrem <= p.size) (d:Dn lt p (n + 1)) :
  (evK lt (kas_descPart n nrem p)).2.Perm p/\1 <= (evK lt (kas_descPart n nrem p)).1/\(evK lt (kas_descPart n nrem p)).1 <= nrem/\Up lt (evK lt (kas_descPart n nrem p)).2 (evK lt (kas_descPart n nrem p)).1:=by
 unfold kas_descPart
 rw [evK_bind]
 obtain ⟨a1,a2,a3,a4,a5,a6⟩:=desc_ev O (nrem - (n + 1)) p (n + 1) 0 (by omega) (by omega) d (fun i g1 g2=>by
  have:i=n + 1 - 1:=by omega
  rw [this];exact ⟨leK_refl O _,leK_refl O _⟩)
 generalize evK lt (kas_desc (nrem - (n + 1)) p (n + 1) 0)=r at a1 a2 a3 a4 a5 a6 ⊢
 have hs:=a1.size_eq
 by_cases hq:r.2.2 > 0
 ·rw [if_pos hq]
  obtain ⟨b1,b2,b3,b4⟩:=tail_ev O (p:=kas_rev r.1 (r.2.1 - (r.2.2 + 1)) r.2.1) (n:=r.2.1) (nrem:=nrem) (by omega) (by omega) (by rw [rev_size];omega) (dn_rev O (by omega) a5 a6 a4)
  exact ⟨(b1.trans (rev_perm _ _ _)).trans a1,b2,b3,b4⟩
 ·rw [if_neg hq]
  obtain ⟨b1,b2,b3,b4⟩:=tail_ev O (p:=r.1) (n:=r.2.1) (nrem:=nrem) (by omega) (by omega) (by omega) a4
  exact ⟨b1.trans a1,b2,b3,b4⟩
theorem count_ev (O:LtO lt) {p:Array Nat} {nrem:Nat} (h1:1 <= nrem) (hz:nrem <= p.size) :
  (evK lt (kas_count nrem p)).2.Perm p/\1 <= (evK lt (kas_count nrem p)).1/\(evK lt (kas_count nrem p)).1 <= nrem/\Up lt (evK lt (kas_count nrem p)).2 (evK lt (kas_count nrem p)).1:=by
 unfold kas_count
 rw [evK_bind]
 obtain ⟨a1,a2,a3,a4⟩:=asc_ev O p (nrem - 1) 1 (Nat.le_refl _) (up_one O p)
 generalize evK lt (kas_asc p (nrem - 1) 1)=m at a1 a2 a3 a4 ⊢
 by_cases hm:m=nrem
 ·rw [if_pos (by simpa using hm)]
  exact ⟨.refl _,a1,by show m <= nrem;omega,a3⟩
 ·rw [if_neg (by simpa using hm)]
  have c:=a4 (by omega)
  by_cases h2:m > 1
  ·rw [if_pos h2]
   have e:evK lt (KasT.ask (gA p 0) (gA p (m - 1)) fun c=>if c=true then .ret (m,p) else kas_descPart m nrem (kas_rev p 0 m))=evK lt (if lt (gA p 0) (gA p (m - 1))=true then .ret (m,p) else kas_descPart m nrem (kas_rev p 0 m)):=rfl
   rw [e]
   cases d:lt (gA p 0) (gA p (m - 1)) with
   | true=>rw [if_pos rfl];exact ⟨.refl _,a1,by show m <= nrem;omega,a3⟩
   | false=>
    rw [if_neg (by simp)]
    have all:∀ x y,x < m->y < m->leK lt (gA p x) (gA p y):=fun x y hx hy=>leK_trans O (a3 x (m - 1) (by omega) (by omega)) (leK_trans O d (a3 0 y (Nat.zero_le _) hy))
    obtain ⟨b1,b2,b3,b4⟩:=descPart_ev O (p:=kas_rev p 0 m) (n:=m) (nrem:=nrem) a1 (by omega) (by rw [rev_size];omega) (by
     intro i j hij hj
     rw [gA_rev (by omega),gA_rev (by omega)]
     by_cases hjm:j < m
     ·rw [if_pos ⟨Nat.zero_le j,hjm⟩,if_pos ⟨Nat.zero_le i,by omega⟩]
      exact all _ _ (by omega) (by omega)
     ·rw [if_neg (fun z=>hjm z.2)]
      have ej:j=m:=by omega
      subst ej
      by_cases hi:i < j
      ·rw [if_pos ⟨Nat.zero_le _,hi⟩]
       exact leK_trans O (leK_of O c) (all _ _ (by omega) (by omega))
      ·have:i=j:=by omega
       subst this
       rw [if_neg (fun z=>hi z.2)]
       exact leK_refl O _)
    exact ⟨b1.trans (rev_perm _ _ _),b2,b3,b4⟩
  ·rw [if_neg h2]
   have em:m=1:=by omega
   subst em
   refine descPart_ev O (Nat.le_refl _) (by omega) hz fun i j hij hj=>?_
   by_cases hj0:j=0
   ·have:i=j:=by omega
    rw [this];exact leK_refl O _
   ·have ej:j=1:=by omega
    by_cases hi:i=0
    ·rw [hi,ej];exact leK_of O c
    ·have:i=j:=by omega
     rw [this];exact leK_refl O _
theorem place_ev (O:LtO lt) {p:Array Nat} {k:Nat} (hs:Up lt p k):∀ (f l r:Nat),l <= r->r <= k->r - l <= f->(∀ i,i < l->leK lt (gA p i) (gA p k))->(∀ i,r <= i->i < k->leK lt (gA p k) (gA p i)) ->
  evK lt (kas_place p k f l r) <= k/\(∀ i,i < evK lt (kas_place p k f l r)->leK lt (gA p i) (gA p k))/\(∀ i,evK lt (kas_place p k f l r) <= i->i < k->leK lt (gA p k) (gA p i)):=by
 intro f
 induction f with
 | zero=>
  intro l r h1 h2 h3 h4 h5
  have e:l=r:=by omega
  subst e
  exact ⟨h2,h4,h5⟩
 | succ f ih=>
  intro l r h1 h2 h3 h4 h5
  have e:kas_place p k (f + 1) l r=if l >= r then .ret l else .ask (gA p k) (gA p ((l + r) / 2)) fun c=>if c=true then kas_place p k f l ((l + r) / 2) else kas_place p k f ((l + r) / 2 + 1) r:=rfl
  rw [e]
  by_cases hlr:l >= r
  ·rw [if_pos hlr]
   have e:l=r:=by omega
   subst e
   exact ⟨h2,h4,h5⟩
  ·rw [if_neg hlr]
   have e2:evK lt (KasT.ask (gA p k) (gA p ((l + r) / 2)) fun c=>if c=true then kas_place p k f l ((l + r) / 2) else kas_place p k f ((l + r) / 2 + 1) r)=evK lt (if lt (gA p k) (gA p ((l + r) / 2))=true then kas_place p k f l ((l + r) / 2) else kas_place p k f ((l + r) / 2 + 1) r):=rfl
   rw [e2]
   cases c:lt (gA p k) (gA p ((l + r) / 2)) with
   | true=>
    rw [if_pos rfl]
    exact ih l ((l + r) / 2) (by omega) (by omega) (by omega) h4 fun i g1 g2=>leK_trans O (leK_of O c) (hs _ _ g1 g2)
   | false=>
    rw [if_neg (by simp)]
    exact ih ((l + r) / 2 + 1) r (by omega) h2 (by omega) (fun i g=>leK_trans O (hs i ((l + r) / 2) (by omega) (by omega)) c) h5
theorem bin_ev (O:LtO lt):∀ (f:Nat) (p:Array Nat) (k:Nat),k + f <= p.size->Up lt p k->(evK lt (kas_bin f p k)).Perm p/\Up lt (evK lt (kas_bin f p k)) (k + f):=by
 intro f
 induction f with
 | zero=>exact fun p k _ h=>⟨.refl _,h⟩
 | succ f ih=>
  intro p k hz h
  have e:kas_bin (f + 1) p k=(kas_place p k k 0 k).bind fun l=>kas_bin f (bubble p k (k - l)) (k + 1):=rfl
  rw [e,evK_bind]
  obtain ⟨a1,a2,a3⟩:=place_ev O h k 0 k (Nat.zero_le _) (Nat.le_refl _) (by omega) (fun i g=>absurd g (Nat.not_lt_zero _)) (fun i g1 g2=>absurd g2 (by omega))
  generalize evK lt (kas_place p k k 0 k)=l at a1 a2 a3 ⊢
  have up:Up lt (bubble p k (k - l)) (k + 1):=fun i j hij hj=>by
   rw [gA_bub (by omega) a1,gA_bub (by omega) a1]
   by_cases i1:i=l
   ·rw [if_pos i1]
    by_cases j1:j=l
    ·rw [if_pos j1];exact leK_refl O _
    ·rw [if_neg j1,if_pos ⟨by omega,by omega⟩]
     exact a3 _ (by omega) (by omega)
   ·rw [if_neg i1]
    by_cases i2:l < i/\i <= k
    ·rw [if_pos i2,if_neg (by omega),if_pos ⟨by omega,by omega⟩]
     exact h _ _ (by omega) (by omega)
    ·rw [if_neg i2]
     by_cases j1:j=l
     ·rw [if_pos j1];exact a2 _ (by omega)
     ·rw [if_neg j1]
      by_cases j2:l < j/\j <= k
      ·rw [if_pos j2];exact h _ _ (by omega) (by omega)
      ·rw [if_neg j2];exact h _ _ hij (by omega)
  obtain ⟨b1,b2⟩:=ih (bubble p k (k - l)) (k + 1) (by rw [bubble_size];omega) up
  exact ⟨b1.trans (bubble_perm _ _ _),by rw [show k + (f + 1)=k + 1 + f by omega];exact b2⟩
theorem sort_ev (O:LtO lt) {n:Nat} (h1:1 <= n):(evK lt (kas_sort n)).Perm (List.range n).toArray/\Up lt (evK lt (kas_sort n)) n:=by
 unfold kas_sort
 rw [evK_bind]
 have hsz:(List.range n).toArray.size=n:=by simp
 obtain ⟨a1,a2,a3,a4⟩:=count_ev O (p:=(List.range n).toArray) h1 (by omega)
 generalize evK lt (kas_count n (List.range n).toArray)=r at a1 a2 a3 a4 ⊢
 have hs:=a1.size_eq
 by_cases h:r.1 < n
 ·rw [if_pos h]
  have em:max r.1 1=r.1:=by omega
  rw [em]
  obtain ⟨b1,b2⟩:=bin_ev O (n - r.1) r.2 r.1 (by omega) a4
  exact ⟨b1.trans a1,by rw [show n=r.1 + (n - r.1) by omega];exact (by rw [show r.1 + (n - r.1) - r.1=n - r.1 by omega];exact b2)⟩
 ·rw [if_neg h]
  have e:r.1=n:=by omega
  exact ⟨a1,by rw [<- e];exact a4⟩
def RngP {α:Type} (n:Nat) (R:α->Prop):KasT α->Prop
 | .ret a=>R a
 | .ask i j k=>i < n/\j < n/\∀ b,RngP n R (k b)
theorem RngP.bind {α β:Type} {n:Nat} {R:α->Prop} {R':β->Prop} {f:α->KasT β} (t:KasT α) (h:RngP n R t) (hf:∀ a,R a->RngP n R' (f a)):RngP n R' (t.bind f):=by
 induction t with
 | ret a=>exact hf a h
 | ask i j k ih=>exact ⟨h.1,h.2.1,fun b=>ih b (h.2.2 b)⟩
theorem wp_in {α:Type} {n:Nat} {R:α->Prop} {lt:Nat->Nat->Bool} {cmp:Nat->Nat->(Bool->Shared->Prop)->Shared->Prop} {Pq:Shared->Prop} (hc:∀ i j C s,i < n->j < n->Pq s->(∀ s',Pq s'->C (lt i j) s')->cmp i j C s) (t:KasT α) (ht:RngP n R t) {Q:α->Shared->Prop} :
  ∀ s,Pq s->(∀ s',Pq s'->Q (evK lt t) s')->t.kasWp cmp Q s:=by
 induction t with
 | ret a=>exact fun s h q=>q s h
 | ask i j k ih=>exact fun s h q=>hc i j _ s ht.1 ht.2.1 h fun s' h'=>ih (lt i j) (ht.2.2 _) s' h' q
def In_ (n:Nat) (p:Array Nat):Prop:=∀ v ∈ p.toList,v < n
theorem In_.gA {n:Nat} {p:Array Nat} (h:In_ n p) (h1:1 <= n) (x:Nat):gA p x < n:=by
 unfold L2.gA
 rw [Array.getD_eq_getD_getElem?]
 cases e:p[x]? with
 | none=>exact h1
 | some v=>exact h v (by rw [Array.mem_toList_iff];exact Array.mem_of_getElem? e)
theorem In_.perm {n:Nat} {p q:Array Nat} (h:In_ n p) (e:q.Perm p):In_ n q:=fun v hv=>h v ((Array.perm_iff_toList_perm.mp e).mem_iff.mp hv)
section
variable {n:Nat} (h1:1 <= n)
include h1
theorem asc_in {p:Array Nat} (h:In_ n p):∀ f m,RngP n (fun _=>True) (kas_asc p f m):=by
 intro f
 induction f with
 | zero=>exact fun _=>trivial
 | succ f ih=>
  intro m
  refine ⟨h.gA h1 _,h.gA h1 _,fun b=>?_⟩
  cases b with
  | true=>exact trivial
  | false=>exact ih _
theorem desc_in:∀ f (p:Array Nat) m q,In_ n p->RngP n (fun r=>In_ n r.1) (kas_desc f p m q):=by
 intro f
 induction f with
 | zero=>exact fun p m q h=>h
 | succ f ih=>
  intro p m q h
  refine ⟨h.gA h1 _,h.gA h1 _,fun b=>?_⟩
  cases b with
  | true=>
   show RngP n _ (if q > 0 then kas_desc f (kas_rev p (m - (q + 1)) m) (m + 1) 0 else kas_desc f p (m + 1) 0)
   by_cases hq:q > 0
   ·rw [if_pos hq];exact ih _ _ _ (h.perm (rev_perm _ _ _))
   ·rw [if_neg hq];exact ih _ _ _ h
  | false=>
   refine ⟨h.gA h1 _,h.gA h1 _,fun c=>?_⟩
   cases c with
   | true=>exact h
   | false=>exact ih _ _ _ h
theorem tail_in {p:Array Nat} (h:In_ n p) (m nr:Nat):RngP n (fun r=>In_ n r.2) (kas_tail3 m nr p):=
 (asc_in h1 (h.perm (rev_perm _ _ _)) _ _).bind _ fun _ _=>h.perm (rev_perm _ _ _)
theorem descPart_in {p:Array Nat} (h:In_ n p) (m nr:Nat):RngP n (fun r=>In_ n r.2) (kas_descPart m nr p):=by
 refine (desc_in h1 _ p _ _ h).bind _ fun r hr=>?_
 by_cases hq:r.2.2 > 0
 ·rw [if_pos hq];exact tail_in h1 (hr.perm (rev_perm _ _ _)) _ _
 ·rw [if_neg hq];exact tail_in h1 hr _ _
theorem count_in {p:Array Nat} (h:In_ n p) (nr:Nat):RngP n (fun r=>In_ n r.2) (kas_count nr p):=by
 refine (asc_in h1 h _ _).bind _ fun m _=>?_
 by_cases hm:(m == nr)=true
 ·rw [if_pos hm];exact h
 ·rw [if_neg hm]
  by_cases h2:m > 1
  ·rw [if_pos h2]
   refine ⟨h.gA h1 _,h.gA h1 _,fun b=>?_⟩
   cases b with
   | true=>exact h
   | false=>exact descPart_in h1 (h.perm (rev_perm _ _ _)) _ _
  ·rw [if_neg h2];exact descPart_in h1 h _ _
theorem place_in {p:Array Nat} (h:In_ n p) (k:Nat):∀ f l r,RngP n (fun _=>True) (kas_place p k f l r):=by
 intro f
 induction f with
 | zero=>exact fun _ _=>trivial
 | succ f ih=>
  intro l r
  show RngP n _ (if l >= r then .ret l else .ask (gA p k) (gA p ((l + r) / 2)) fun c=>if c=true then kas_place p k f l ((l + r) / 2) else kas_place p k f ((l + r) / 2 + 1) r)
  by_cases hlr:l >= r
  ·rw [if_pos hlr];exact trivial
  ·rw [if_neg hlr]
   refine ⟨h.gA h1 _,h.gA h1 _,fun b=>?_⟩
   cases b with
   | true=>exact ih _ _
   | false=>exact ih _ _
theorem bin_in:∀ f (p:Array Nat) k,In_ n p->RngP n (In_ n) (kas_bin f p k):=by
 intro f
 induction f with
 | zero=>exact fun p k h=>h
 | succ f ih=>exact fun p k h=>(place_in h1 h k _ _ _).bind _ fun l _=>ih _ _ (h.perm (bubble_perm _ _ _))
theorem sort_in:RngP n (In_ n) (kas_sort n):=by
 refine (count_in h1 (p:=(List.range n).toArray) (fun v hv=>by simpa using hv) n).bind _ fun r hr=>?_
 by_cases h:r.1 < n
 ·rw [if_pos h];exact bin_in h1 _ _ _ hr
 ·rw [if_neg h];exact hr
end
end
end L2
namespace L2
open PySem PySem.Spec PyProof.Rows PySem.W
def ltS (a b:Str):Bool:=decide (a.cps.toList < b.cps.toList)
theorem ltS_asym {a b:Str} (h:ltS a b=true):ltS b a=false:=KeyOrd.klt_asymm (O:=strKind.toKeyOrd) h
theorem ltS_trn {a b c:Str} (h1:ltS b a=false) (h2:ltS c b=false):ltS c a=false:=KeyOrd.kle_trans (O:=strKind.toKeyOrd) (a:=a.cps.toList) (b:=b.cps.toList) (c:=c.cps.toList) h1 h2
theorem ltS_tot {a b:Str} (h1:ltS a b=false) (h2:ltS b a=false):a=b:=by
 have e:a.cps.toList=b.cps.toList:=strKind.total _ _ h1 h2
 cases a;cases b
 simp only [Str.mk.injEq]
 exact Array.toList_inj.mp e
theorem ltS_self (a:Str):ltS a a=false:=strKind.irrefl _
def ltP (a b:Str × Str):Bool:=if a.1=b.1 then ltS a.2 b.2 else ltS a.1 b.1
theorem ltP_asym {a b:Str × Str} (h:ltP a b=true):ltP b a=false:=by
 unfold ltP at h ⊢
 by_cases e:a.1=b.1
 ·rw [if_pos e] at h;rw [if_pos e.symm];exact ltS_asym h
 ·rw [if_neg e] at h;rw [if_neg (Ne.symm e)];exact ltS_asym h
theorem ltP_trn {a b c:Str × Str} (h1:ltP b a=false) (h2:ltP c b=false):ltP c a=false:=by
 unfold ltP at h1 h2 ⊢
 by_cases e1:b.1=a.1 <;> by_cases e2:c.1=b.1
 ·rw [if_pos e1] at h1;rw [if_pos e2] at h2;rw [if_pos (e2.trans e1)];exact ltS_trn h1 h2
 ·rw [if_neg e2] at h2;rw [if_neg (fun z=>e2 (z.trans e1.symm)),<- e1];exact h2
 ·rw [if_neg e1] at h1;rw [if_neg (fun z=>e1 (e2.symm.trans z)),e2];exact h1
 ·rw [if_neg e1] at h1;rw [if_neg e2] at h2
  by_cases e3:c.1=a.1
  ·exact absurd (ltS_tot (a:=b.1) (b:=a.1) h1 (by rw [<- e3];exact h2)) e1
  ·rw [if_neg e3];exact ltS_trn h1 h2
theorem ltP_tot {a b:Str × Str} (h1:ltP a b=false) (h2:ltP b a=false):a=b:=by
 unfold ltP at h1 h2
 by_cases e:a.1=b.1
 ·rw [if_pos e] at h1;rw [if_pos e.symm] at h2
  exact Prod.ext e (ltS_tot h1 h2)
 ·rw [if_neg e] at h1;rw [if_neg (Ne.symm e)] at h2
  exact absurd (ltS_tot h1 h2) e
def Asc {α:Type} (lt:α->α->Bool) (l:List α):Prop:=l.Pairwise fun a b=>lt b a=false
theorem asc_uniq {α:Type} {lt:α->α->Bool} (tot:∀ a b,lt a b=false->lt b a=false->a=b):∀ {l l':List α},l.Perm l'->Asc lt l->Asc lt l'->l=l':=by
 intro l
 induction l with
 | nil=>intro l' p _ _;exact (List.Perm.nil_eq p)
 | cons x l ih=>
  intro l' p h h'
  cases l' with
  | nil=>exact absurd p.length_eq (by simp)
  | cons y l'=>
   obtain ⟨a1,a2⟩:=List.pairwise_cons.mp h
   obtain ⟨b1,b2⟩:=List.pairwise_cons.mp h'
   have e:x=y:=by
    have hx:x ∈ y :: l':=p.mem_iff.mp List.mem_cons_self
    have hy:y ∈ x :: l:=p.mem_iff.mpr List.mem_cons_self
    rcases List.mem_cons.mp hx with e | hx
    ·exact e
    ·rcases List.mem_cons.mp hy with e | hy
     ·exact e.symm
     ·exact tot x y (b1 x hx) (a1 y hy)
   subst e
   rw [ih (List.Perm.cons_inv p) a2 b2]
theorem rising_asc:∀ (l:List Str) (p:Str),risingS p l=true->Asc ltS (p :: l)
 | [],p,_=>List.pairwise_singleton _ _
 | x :: r,p,h=>by
  unfold risingS at h
  obtain ⟨h1,h2⟩:=Bool.and_eq_true_iff.mp h
  have ih:=rising_asc r x h2
  have hpx:ltS x p=false:=by
   rw [ltCps_eq] at h1
   simpa [ltS] using h1
  refine List.pairwise_cons.mpr ⟨fun y hy=>?_,ih⟩
  rcases List.mem_cons.mp hy with rfl | hy
  ·exact hpx
  ·exact ltS_trn hpx ((List.pairwise_cons.mp ih).1 y hy)
theorem sorted_asc (l:List Str) (h:sortedS l=true):Asc ltS l:=by
 cases l with
 | nil=>exact .nil
 | cons x r=>exact rising_asc r x h
theorem vals_strs:∀ {us:List Value} {ys:List Str},StrsAre us ys->Vals (ys.map V.str) us
 | _,_,.nil=>.nil
 | _,_,.cons _ _ h=>.cons ⟨_,rfl⟩ (vals_strs h)
section
variable {X:Cx}
theorem call_sortedS:CallR X (.builtin "sorted") (fun xs H Q=>∃ (a:Addr) (zs:List Str),xs=[.ref a]/\H a=some (.lst (zs.map V.str))/\zs.length < 64 /\
  ∀ (l:Addr) (ys:List Str),H l=none->ys.Perm zs->Asc ltS ys->Q (.ref l) (upd H l (.lst (ys.map V.str)))):=by
 intro pins s σ H xs us Q I r h
 obtain ⟨a,zs,rfl,hS,hz,q⟩:=h
 obtain ⟨u,rfl,rx⟩:=vals1 r
 cases rx
 obtain ⟨its,r',pl,hzl⟩:=I.list (.of hS)
 have hst:=strs_of r'
 have hl:its.length=zs.length:=by have:=r'.length;rw [List.length_map] at this;exact this.symm
 refine sorted_strs pl.isList hst (by omega) fun out ss a1 a2 a3=>?_
 obtain ⟨e,he⟩:=sortedAll_at s.heap its out
 have le:ss.length=zs.length:=a2.length_eq
 refine ⟨.ref (s.heap.objs.size + 1),_,I.laid (t':=s.toks) (h':=sortedAll s.heap its out) (o:=.lst (ss.map V.str)) (fun b o z=>sortedAll_old z) (Nat.le_succ _) ?_,rfl,q _ ss (I.hok.fresh (Nat.le_succ _)) a2 (sorted_asc _ a3)⟩
 exact ⟨by rw [List.length_map,sizeLine_eq];omega,out.toList,e,vals_strs a1,by rw [Array.toArray_toList];exact he⟩
end
def PrAt (h:Heap) (v:Value) (p:Str × Str):Prop:=∃ (t:Addr) (o:Obj) (k:Nat) (t1 t2:Tok),v=.ref t/\h.get? t=some o/\o.cls=.type "tuple"/\o.data=.seq #[.str p.1 t1,.str p.2 t2] k
inductive PrsAt (h:Heap):List Value->List (Str × Str)->Prop
 | nil:PrsAt h [] []
 | cons {v:Value} {p:Str × Str} {vs:List Value} {ps:List (Str × Str)} (a:PrAt h v p) (r:PrsAt h vs ps):PrsAt h (v :: vs) (p :: ps)
theorem PrsAt.len {h:Heap} {vs:List Value} {ps:List (Str × Str)} (x:PrsAt h vs ps):vs.length=ps.length:=by
 induction x with
 | nil=>rfl
 | cons _ _ ih=>rw [List.length_cons,List.length_cons,ih]
theorem PrsAt.get {h:Heap} {vs:List Value} {ps:List (Str × Str)} (x:PrsAt h vs ps):∀ (i:Nat),i < vs.length->PrAt h (vs.getD i .none) (ps.getD i (Str.empty,Str.empty)):=by
 induction x with
 | nil=>exact fun i hi=>absurd hi (Nat.not_lt_zero _)
 | cons a r ih=>
  intro i hi
  cases i with
  | zero=>exact a
  | succ i=>exact ih i (by simpa using hi)
theorem PrsAt.keep {h h':Heap} {a:Addr} {u:Array Value} {n:Nat} (ha:h.get? a=some (seqObj "list" u n)) (k:∀ b o,b ≠ a->h.get? b=some o->h'.get? b=some o) {vs:List Value} {ps:List (Str × Str)} (x:PrsAt h vs ps):PrsAt h' vs ps:=by
 induction x with
 | nil=>exact .nil
 | cons c r ih=>
  obtain ⟨t,o,j,t1,t2,e1,e2,e3,e4⟩:=c
  refine .cons ⟨t,o,j,t1,t2,e1,k t o (fun z=>?_) e2,e3,e4⟩ ih
  rw [z,ha] at e2
  cases e2
  exact absurd e3 (by show ¬ (Value.type "list"=Value.type "tuple");decide)
section
variable {prog:Program} {w:World} {A:Around} {E:Value->Shared->Prop} {s:Shared}
theorem ask_pair {x y:Value} {p q:Str × Str} {C:Bool->Shared->Prop} (hx:PrAt s.heap x p) (hy:PrAt s.heap y q) (h:C (ltP p q) s):wpAny (model prog w) A (keyLt' (tuples' true) x y) C E s:=by
 obtain ⟨t,o,j,t1,t2,rfl,e2,_,e4⟩:=hx
 obtain ⟨t',o',j',t3,t4,rfl,f2,_,f4⟩:=hy
 refine kat_lt e2 e4 f2 f4 ?_
 show KatLex prog w A true _ C [(.str p.1 t1,.str q.1 t3),(.str p.2 t2,.str q.2 t4)] 0 s
 refine kat_cons (eqBool_str ?_)
 unfold ltP at h
 by_cases e:p.1=q.1
 ·rw [show (p.1 == q.1)=true by simpa using e]
  rw [if_pos e] at h
  refine kat_yes (kat_cons (eqBool_str ?_))
  by_cases e':p.2=q.2
  ·rw [show (p.2 == q.2)=true by simpa using e']
   rw [e',ltS_self] at h
   exact kat_yes (kat_nil h)
  ·rw [show (p.2 == q.2)=false by simpa using e']
   exact kat_no (kat_one _ _ (PyProof.Rows.lt_str h))
 ·rw [show (p.1 == q.1)=false by simpa using e]
  rw [if_neg e] at h
  exact kat_no (oneLt_str h)
theorem kind_pairs {vs:List Value} {ps:List (Str × Str)} {C:SortKind->Shared->Prop} (x:PrsAt s.heap vs ps) (hne:0 < vs.length) (h:C (tuples' true) s):wpAny (model prog w) A (keyKind' vs.toArray) C E s:=by
 have key:∀ {vs:List Value} {ps:List (Str × Str)},PrsAt s.heap vs ps->∃ fs,KatTups s.heap vs fs/\fs.length=vs.length/\∀ v ∈ fs,∃ z t,v=.str z t:=by
  intro vs ps x
  induction x with
  | nil=>exact ⟨[],KatTups.nil,rfl,fun v hv=>by cases hv⟩
  | cons c r ih=>
   obtain ⟨fs,a1,a2,a3⟩:=ih
   obtain ⟨t,o,j,t1,t2,rfl,e2,e3,e4⟩:=c
   refine ⟨_ :: fs,KatTups.cons e2 e3 e4 rfl a1,by rw [List.length_cons,List.length_cons,a2],fun v hv=>?_⟩
   rcases List.mem_cons.mp hv with rfl | hv
   ·exact ⟨_,_,rfl⟩
   ·exact a3 v hv
 obtain ⟨fs,a1,a2,a3⟩:=key x
 refine kat_kind (T:=.type "str") a1 (by omega) (fun v hv=>?_) rfl h
 obtain ⟨z,t,rfl⟩:=a3 v hv
 exact Looks.of_pure rfl
def pick {α:Type} (p:Array Nat) (l:List α) (d:α):List α:=p.toList.map fun i=>l.getD i d
theorem pick_perm {α:Type} {p:Array Nat} {l:List α} (d:α) (h:p.Perm (List.range l.length).toArray):(pick p l d).Perm l:=by
 have h1:(pick p l d).Perm ((List.range l.length).map fun i=>l.getD i d):=(Array.perm_iff_toList_perm.mp h).map _
 have e:(List.range l.length).map (fun i=>l.getD i d)=l:=by
  apply List.ext_getElem
  ·simp
  ·intro i g1 g2
   simp [List.getD_eq_getElem?_getD,List.getElem?_eq_getElem g2]
 rwa [e] at h1
theorem pick_asc {p:Array Nat} {ps:List (Str × Str)} {n:Nat} (hp:p.size=n) (u:Up (fun i j=>ltP (ps.getD i (Str.empty,Str.empty)) (ps.getD j (Str.empty,Str.empty))) p n):Asc ltP (pick p ps (Str.empty,Str.empty)):=by
 refine List.pairwise_iff_getElem.mpr fun i j hi hj hij=>?_
 unfold pick at hi hj ⊢
 rw [List.length_map,Array.length_toList] at hi hj
 have z:=u i j (Nat.le_of_lt hij) (by omega)
 unfold leK gA at z
 simp only [Array.getD_eq_getD_getElem?,Array.getElem?_eq_getElem hi,Array.getElem?_eq_getElem hj,Option.getD_some] at z
 simpa using z
theorem sort_pairs {a:Addr} {vs:List Value} {ps:List (Str × Str)} {n:Nat} {P:PySem.Fin->Shared->Prop} (hA:s.heap.get? a=some (seqObj "list" vs.toArray n)) (hT:PrsAt s.heap vs ps) (h64:vs.length < 64)
  (h:∀ (p:Array Nat) (g:Heap) (c:Nat),p.Perm (List.range vs.length).toArray->Asc ltP (pick p ps (Str.empty,Str.empty))->(∀ b o,b ≠ a->s.heap.get? b=some o->g.get? b=some o)->g.get? a=some (seqObj "list" (pick p vs .none).toArray c) ->
   P (.done (.ret .none)) { s with heap:=g }):wpAny (model prog w) A (Builtin.«list.sort» ⟨[.ref a],[]⟩) P E s:=by
 have lsz:vs.length <= sizeLine:=by rw [sizeLine_eq];omega
 obtain ⟨e1,hA1⟩:∃ e1,(s.heap.update a (Obj.mapSeq fun _=>(#[]:Array Value))).get? a=some (seqObj "list" #[] e1):=⟨_,get?_update_seq hA fun _=>#[]⟩
 rw [list_sort_plain]
 refine wpAny_bind (listItems_at hA rfl (wpAny_bind (listUpdate_at hA rfl (wpAny_bind (seqEpoch_at hA1 rfl (wpAny_bind (wpAny_newTuple (wpAny_bind (wpAny_newList (wpAny_holding ?_) (Nat.zero_le _))) lsz)))) (by rw [List.size_toArray];exact lsz) (Nat.zero_le _))))
 obtain ⟨g0,eg⟩:∃ g0,g0=((s.heap.update a (Obj.mapSeq fun _=>(#[]:Array Value))).push (seqObj "tuple" vs.toArray 0)).push (seqObj "list" #[] 0):=⟨_,rfl⟩
 have hA2:g0.get? a=some (seqObj "list" #[] e1):=by rw [eg];exact Heap.get?_push_of_some _ (Heap.get?_push_of_some _ hA1)
 have kp:∀ b o,b ≠ a->s.heap.get? b=some o->g0.get? b=some o:=fun b o hb z=>by
  rw [eg];exact Heap.get?_push_of_some _ (Heap.get?_push_of_some _ ((Heap.get?_update_ne _ _ _ _ hb).trans z))
 show wpAny (model prog w) A _ P E { s with heap:=((s.heap.update a (Obj.mapSeq fun _=>(#[]:Array Value))).push (seqObj "tuple" vs.toArray 0)).push (seqObj "list" #[] 0) }
 rw [<- eg]
 dsimp only
 have hT0:PrsAt g0 vs ps:=hT.keep hA kp
 have fin:∀ (st:SortSt) (p:Array Nat),p.Perm (List.range vs.length).toArray->Asc ltP (pick p ps (Str.empty,Str.empty))->(arrOf st).map (·.2)=(pick p vs .none).toArray->failedOf st=none ->
   P (.done (.ret .none)) { s with heap:=g0.update a (Obj.mapSeq fun _=>(arrOf st).map (·.2)) }:=fun st p hp ha ho _=>by
  rw [ho]
  exact h p _ _ hp ha (fun b o hb z=>(Heap.get?_update_ne _ _ _ _ hb).trans (kp b o hb z)) (get?_update_seq hA2 fun _=>(pick p vs .none).toArray)
 by_cases h2:vs.toArray.size < 2
 ·rw [if_pos h2,if_pos h2]
  refine wpAny_bind (wpAny_pure ?_)
  rw [StateT.run_pure]
  refine wpAny_bind (wpAny_pure ?_)
  dsimp only
  have l2:vs.length < 2:=by simpa using h2
  have eo:(arrOf (SortSt.mk' general' (vs.toArray.zip vs.toArray) #[] 7 none)).map (·.2)=(pick (List.range vs.length).toArray vs .none).toArray:=by
   show (vs.toArray.zip vs.toArray).map (·.2)=_
   have lv:vs=[] \/ ∃ v,vs=[v]:=by
    cases vs with
    | nil=>exact .inl rfl
    | cons v r=>cases r with
     | nil=>exact .inr ⟨v,rfl⟩
     | cons _ _=>exact absurd l2 (by simp)
   apply Array.toList_inj.mp
   rcases lv with rfl | ⟨v,rfl⟩
   ·simp [pick]
   ·simp [pick,List.range_succ]
  have z:=fin (SortSt.mk' general' (vs.toArray.zip vs.toArray) #[] 7 none) (List.range vs.length).toArray (.refl _) (by
   have lp:=hT.len
   unfold pick
   refine List.pairwise_iff_getElem.mpr fun i j hi hj hij=>?_
   simp at hi hj
   omega) eo rfl
  have sz:((arrOf (SortSt.mk' general' (vs.toArray.zip vs.toArray) #[] 7 none)).map (·.2)).size <= sizeLine:=by
   rw [eo];show (pick _ _ _).length <= _;unfold pick;simp;exact lsz
  refine wpAny_bind (seqEpoch_at hA2 rfl (wpAny_bind (listUpdate_at hA2 rfl ?_ (Nat.zero_le _) (Nat.le_succ_of_le sz))))
  simp only [bne_self_eq_false,Bool.false_eq_true,if_false]
  exact wpAny_pure z
 ·rw [if_neg h2,if_neg h2]
  have l2:2 <= vs.length:=by simpa using h2
  let lt:Nat->Nat->Bool:=fun i j=>ltP (ps.getD i (Str.empty,Str.empty)) (ps.getD j (Str.empty,Str.empty))
  have O:LtO lt:=⟨fun i j q=>ltP_asym q,fun i j k q1 q2=>ltP_trn q1 q2⟩
  obtain ⟨pp,up⟩:=sort_ev O (n:=vs.length) (by omega)
  have psz:(evK lt (kas_sort vs.length)).size=vs.length:=by rw [pp.size_eq];simp
  refine wpAny_bind (kind_pairs (s:={ s with heap:=g0 }) hT0 (by omega) ?_)
  refine wpAny_bind (wpAny_mono (kat_run (κ:=tuples' true) (ks:=vs) (vs:=vs) (G:=fun p s'=>p=evK lt (kas_sort vs.length)/\s' = { s with heap:=g0 })
   (Q:=fun st s'=>(arrOf st).map (·.2)=(pick (evK lt (kas_sort vs.length)) vs .none).toArray/\failedOf st=none/\s' = { s with heap:=g0 }) rfl l2 h64 (fun p st s' _ b2 b3 b4=>⟨by rw [<- b4.1];exact kat_snds rfl b2,b3,b4.2⟩) ?_) ?_ fun _ _ z=>z)
  ·
   refine wp_in (lt:=lt) (Pq:=fun s'=>s' = { s with heap:=g0 }) (fun i j C s' hi hj hs hC=>?_) _ (sort_in (by omega)) _ rfl fun s' hs=>⟨rfl,hs⟩
   subst hs
   exact ask_pair (hT0.get i hi) (hT0.get j hj) (hC _ rfl)
  ·rintro ⟨⟨⟩,st⟩ s' ⟨b1,b2,rfl⟩
   dsimp only
   have sz:((arrOf st).map (·.2)).size <= sizeLine:=by
    rw [b1];show (pick _ _ _).length <= _;unfold pick;rw [List.length_map,Array.length_toList,psz];exact lsz
   refine wpAny_bind (seqEpoch_at hA2 rfl (wpAny_bind (listUpdate_at hA2 rfl ?_ (Nat.zero_le _) (Nat.le_succ_of_le sz))))
   rw [b2]
   simp only [bne_self_eq_false,Bool.false_eq_true,if_false]
   exact wpAny_pure (fin st _ pp (pick_asc psz up) b1 b2)
end
def pairV (p:Str × Str):List V:=[.str p.1,.str p.2]
theorem refV_of:∀ {qs:List Addr} {us:List Value},Vals (qs.map V.ref) us->us=qs.map Value.ref
 | [],_,.nil=>rfl
 | q :: qs,_,.cons r h=>by
  rw [List.map_cons,<- refV_of h]
  exact congrArg (· :: _) r
theorem vals_refs:∀ (qs:List Addr),Vals (qs.map V.ref) (qs.map Value.ref)
 | []=>.nil
 | _ :: qs=>.cons rfl (vals_refs qs)
section
variable {X:Cx} {pins:List (Addr × Obj)} {σ:St} {H:Hp} {s:Shared}
theorem pairs_at (I:Inv X pins σ H s):∀ {qs:List Addr} {ps:List (Str × Str)},Paired (fun q r=>H q=some (.tup r)) qs (ps.map pairV)->PrsAt s.heap (qs.map Value.ref) ps:=by
 intro qs
 induction qs with
 | nil=>
  intro ps h
  cases ps with
  | nil=>exact .nil
  | cons _ _=>cases h
 | cons q qs ih=>
  intro ps h
  cases ps with
  | nil=>cases h
  | cons p ps=>
   cases h with
   | cons h1 h2=>
   obtain ⟨its,r,pl,_⟩:=I.tuple (.of h1)
   obtain ⟨o,ho,hc,n,hd⟩:=pl
   cases r with
   | cons r1 r=>
   cases r with
   | cons r2 r=>
   cases r
   obtain ⟨t1,rfl⟩:=r1
   obtain ⟨t2,rfl⟩:=r2
   exact .cons ⟨q,o,n,t1,t2,rfl,ho,hc,hd⟩ (ih h2)
theorem PrsAt.more {h h':Heap} (k:∀ b o,h.get? b=some o->h'.get? b=some o) {vs:List Value} {ps:List (Str × Str)} (x:PrsAt h vs ps):PrsAt h' vs ps:=by
 induction x with
 | nil=>exact .nil
 | cons c r ih=>
  obtain ⟨t,o,j,t1,t2,e1,e2,e3,e4⟩:=c
  exact .cons ⟨t,o,j,t1,t2,e1,k t o e2,e3,e4⟩ ih
theorem pick_map {α β:Type} (f:α->β) (p:Array Nat) (l:List α) (d:α) (e:β) (hp:∀ i ∈ p.toList,i < l.length):pick p (l.map f) e=(pick p l d).map f:=by
 unfold pick
 rw [List.map_map]
 refine List.map_congr_left fun i hi=>?_
 have:=hp i hi
 simp [List.getD_eq_getElem?_getD,List.getElem?_eq_getElem this]
theorem paired_pick {R:Addr->List V->Prop} {qs:List Addr} {rs:List (List V)} (h:Paired R qs rs) (p:Array Nat) (hp:∀ i ∈ p.toList,i < qs.length):Paired R (pick p qs 0) (pick p rs []):=by
 unfold pick
 have get:∀ i,i < qs.length->R (qs.getD i 0) (rs.getD i []):=by
  clear hp
  induction h with
  | nil=>exact fun i hi=>absurd hi (Nat.not_lt_zero _)
  | cons a r ih=>
   intro i hi
   cases i with
   | zero=>exact a
   | succ i=>exact ih i (by simpa using hi)
 generalize p.toList=l at hp
 induction l with
 | nil=>exact .nil
 | cons i l ih=>exact .cons (get i (hp i List.mem_cons_self)) (ih fun j hj=>hp j (List.mem_cons_of_mem _ hj))
theorem call_sortedP:CallR X (.builtin "sorted") (fun xs H Q=>∃ (a:Addr) (qs:List Addr) (ps:List (Str × Str)),xs=[.ref a]/\H a=some (.lst (qs.map V.ref))/\Paired (fun q r=>H q=some (.tup r)) qs (ps.map pairV)/\ps.length < 64 /\
  ∀ (l:Addr) (qs':List Addr) (ps':List (Str × Str)),H l=none->ps'.Perm ps->Asc ltP ps'->Paired (fun q r=>H q=some (.tup r)) qs' (ps'.map pairV)->Q (.ref l) (upd H l (.lst (qs'.map V.ref)))):=by
 intro pins s σ H xs us Q I r h
 obtain ⟨a,qs,ps,rfl,hA,hP,hz,q⟩:=h
 obtain ⟨u,rfl,rx⟩:=vals1 r
 cases rx
 obtain ⟨its,r',pl,hzl⟩:=I.list (.of hA)
 have ei:=refV_of r'
 subst ei
 have hpr:=pairs_at I hP
 have lq:qs.length=ps.length:=by have:=hpr.len;rwa [List.length_map] at this
 have lv:(qs.map Value.ref).length < 64:=by rw [List.length_map];omega
 refine Calls.call_function_entry kind_sorted plain_sorted entry_sorted (args_sorted1 _) ?_
 unfold Builtin.«sorted»
 refine wpAny_bind (m:=checkCount "sorted" 1 1 _) (wpAny_pure (wpAny_bind (collect_list pl.isList (wpAny_bind (wpAny_newList ?_ (by rw [sizeLine_eq];omega))) (by rw [sizeLine_eq];omega))))
 obtain ⟨g0,eg⟩:∃ g0,g0=(s.heap.push (seqObj "list" #[] 0)).update s.heap.objs.size (Obj.mapSeq (· ++ (qs.map Value.ref).toArray)):=⟨_,rfl⟩
 have gs:g0.objs.size=s.heap.objs.size + 1:=by rw [eg,Heap.size_update,size_push']
 have k0:∀ b o,s.heap.get? b=some o->(g0.push (seqObj "list" (qs.map Value.ref).toArray 0)).get? b=some o:=fun b o z=>by
  have hlt:b < s.heap.objs.size:=Heap.lt_size z
  refine Heap.get?_push_of_some _ ?_
  rw [eg,Heap.get?_update_ne _ _ _ _ (Nat.ne_of_lt hlt)]
  exact Heap.get?_push_of_some _ z
 have hN:(g0.push (seqObj "list" (qs.map Value.ref).toArray 0)).get? (s.heap.objs.size + 1)=some (seqObj "list" (qs.map Value.ref).toArray 0):=by
  rw [<- gs];exact Heap.get?_push_size _ rfl
 show wpAny _ _ _ _ _ { s with heap:=((s.heap.push (seqObj "list" #[] 0)).update s.heap.objs.size (Obj.mapSeq (· ++ (qs.map Value.ref).toArray))).push (seqObj "list" (qs.map Value.ref).toArray 0) }
 rw [<- eg,gs]
 refine wpAny_bind (wpAny_holding (wpAny_call_entry slot_list_sort ⟨_,hN,rfl⟩ entry_list_sort (sort_pairs hN (hpr.more k0) lv fun p g c b1 b2 b3 b4=>⟨_,rfl,?_⟩) (args_list_sort _)))
 refine wpAny_pure ⟨_,rfl,?_⟩
 rw [List.length_map] at b1
 have hin:∀ i ∈ p.toList,i < qs.length:=fun i hi=>by
  have:=(Array.perm_iff_toList_perm.mp b1).mem_iff.mp hi
  simpa using this
 have pq:=paired_pick hP p hin
 have er:pick p (ps.map pairV) []=(pick p ps (Str.empty,Str.empty)).map pairV:=pick_map pairV p ps _ _ (fun i hi=>by rw [<- lq];exact hin i hi)
 rw [er] at pq
 have ev:pick p (qs.map Value.ref) .none=(pick p qs 0).map Value.ref:=pick_map Value.ref p qs _ _ hin
 rw [ev] at b4
 have old:∀ b o,s.heap.get? b=some o->g.get? b=some o:=fun b o z=>b3 b o (Nat.ne_of_lt (Nat.lt_succ_of_lt (Heap.lt_size z))) (k0 b o z)
 refine ⟨.ref (s.heap.objs.size + 1),_,I.laid (t':=s.toks) (h':=g) (o:=.lst ((pick p qs 0).map V.ref)) old (Nat.le_succ _) ?_,rfl,q _ _ _ (I.hok.fresh (Nat.le_succ _)) (pick_perm _ (by rw [<- lq];exact b1)) b2 pq⟩
 refine ⟨?_,_,c,vals_refs _,b4⟩
 unfold pick
 rw [List.length_map,List.length_map,Array.length_toList,b1.size_eq]
 simp
 rw [sizeLine_eq];omega
end
end L2
namespace L2
open PySem PySem.Spec PyProof.Rows PySem.W
def metS (val:Nat->Str):Nat->List Str
 | 0=>[]
 | i + 1=>if (metS val i).any (· == val i) then metS val i else metS val i ++ [val i]
theorem metS_any (val:Nat->Str) (i:Nat) (k:Str):(metS val (i + 1)).any (· == k)=((metS val i).any (· == k) || k == val i):=by
 show (if (metS val i).any (· == val i) then metS val i else metS val i ++ [val i]).any (· == k)=_
 by_cases h:(metS val i).any (· == val i)=true
 ·rw [if_pos h]
  by_cases hk:k=val i
  ·subst hk;rw [h];simp
  ·rw [show (k == val i)=false by simpa using hk,Bool.or_false]
 ·rw [if_neg h,List.any_append]
  simp only [List.any_cons,List.any_nil,Bool.or_false]
  rw [Bool.beq_comm (a:=k)]
theorem metS_len (val:Nat->Str) (i:Nat):(metS val (i + 1)).length=if (metS val i).any (· == val i) then (metS val i).length else (metS val i).length + 1:=by
 show (if (metS val i).any (· == val i) then metS val i else metS val i ++ [val i]).length=_
 split <;> simp
theorem metS_le (val:Nat->Str):∀ i,(metS val i).length <= i
 | 0=>Nat.le_refl _
 | i + 1=>by
  rw [metS_len]
  have:=metS_le val i
  split <;> omega
theorem metS_nodup {val:Nat->Str}:∀ n,(∀ i j,i < n->j < n->val i=val j->i=j)->(metS val n).length=n/\∀ k,(metS val n).any (· == k)=true->∃ i,i < n/\val i=k
 | 0,_=>⟨rfl,fun k h=>by simp [metS] at h⟩
 | n + 1,h=>by
  obtain ⟨a1,a2⟩:=metS_nodup n fun i j hi hj e=>h i j (by omega) (by omega) e
  have no:(metS val n).any (· == val n)=false:=by
   cases c:(metS val n).any (· == val n) with
   | false=>rfl
   | true=>
    obtain ⟨i,hi,e⟩:=a2 _ c
    have:=h i n (by omega) (by omega) e
    omega
  refine ⟨by rw [metS_len,no,a1];rfl,fun k hk=>?_⟩
  rw [metS_any] at hk
  rcases Bool.or_eq_true_iff.mp hk with q | q
  ·obtain ⟨i,hi,e⟩:=a2 k q
   exact ⟨i,by omega,e⟩
  ·exact ⟨n,by omega,by simpa using (beq_iff_eq.mp q).symm⟩
section
variable {prog:Program} {w:World} {A:Around} {R:Result->Shared->Prop} {I:Addr} {fp wr:List Addr} {G:Array GenState->Array GenState->Prop} {n:Nat} {P:Nat->Value->Prop} {St:Nat->Shared->Prop}
abbrev SetS (prog:Program) (w:World) (h:Heap) (S:Addr) (val:Nat->Str) (i:Nat):Prop:=h.SetOf (PySem.strKind prog w) S (fun k=>(metS val i).any (· == k)) (metS val i).length
theorem setS_stay {h h':Heap} {S:Addr} {val:Nat->Str} {i:Nat} (x:SetS prog w h S val i) (k:∀ o,h.get? S=some o->h'.get? S=some o):SetS prog w h' S val i:=by
 obtain ⟨o,es,ep,tb,ho,q⟩:=x
 exact ⟨o,es,ep,tb,k o ho,q⟩
theorem set_turns (W:WalksS prog w A.in1 I fp wr G n P St) (S:Addr) (hSf:S ∉ fp) (val:Nat->Str) (hval:∀ i v,P i v->∃ t,v=.str (val i) t) (hb:n + 1 < scanBound):∀ (k i:Nat) (s:Shared),n - i=k->i <= n->St i s->SetS prog w s.heap S val i ->
  (∀ s',Moved (S :: wr) G s s'->SetS prog w s'.heap S val n->R (.ok (.ret .none)) s')->codeAny (model prog w) A (.builtin "set.update.loop" ⟨[.ref S,.ref I],[]⟩) R s:=by
 have nw:S ∉ wr:=fun z=>hSf (W.sub _ z)
 have more:∀ b ∈ wr,b ∈ S :: wr:=fun b z=>List.mem_cons_of_mem _ z
 intro k
 induction k with
 | zero=>
  intro i s hk hi st hS hR
  obtain rfl:i=n:=by omega
  refine codeAny_builtin F.entry_set_update_loop ?_
  rw [Around.under_plainId F.plain_set_update_loop _]
  show wpAny _ A.in1 (pyNext (.ref I) >>= _) _ _ s
  exact wpAny_bind (W.done s _ _ st fun s' hm=>wpAny_pure (hR s' (hm.mono more) (setS_stay hS fun o z=>hm.heap S _ nw z)))
 | succ k ih=>
  intro i s hk hi st hS hR
  have lt:i < n:=by omega
  refine codeAny_builtin F.entry_set_update_loop ?_
  rw [Around.under_plainId F.plain_set_update_loop _]
  show wpAny _ A.in1 (pyNext (.ref I) >>= _) _ _ s
  refine wpAny_bind (W.item i s _ _ lt st fun v s' hP st' hm=>?_)
  obtain ⟨t,rfl⟩:=hval i v hP
  have hS1:SetS prog w s'.heap S val i:=setS_stay hS fun o z=>hm.heap S _ nw z
  have room:=metS_le val i
  show wpAny _ A.in1 (holding [Value.str (val i) t] (setAdd S (.str (val i) t)) >>= _) _ _ s'
  refine wpAny_bind (wpAny_holding ?_)
  unfold setAdd
  refine wpAny_holding (wpAny_bind ((PySem.strKind prog w).pyHash (k:=val i) (strKind_is _ _ _ _) (wpAny_setAddHashed_of (knd:=PySem.strKind prog w) (s:={ s' with toks:=s'.toks + 1 }) (strKind_is _ _ _ _) rfl hS1 (by omega) fun h' hsb hS2=>?_)))
  have hS3:SetS prog w h' S val (i + 1):=SetOf_congr hS2 (fun k'=>by rw [metS_any];rfl) (by rw [metS_len])
  refine wpAny_pure ⟨plainId_quiet F.plain_set_update_loop _,ih (i + 1) _ (by omega) lt (W.frame _ s' _ _ st' (Nat.le_succ _) fun b hb o e=>?_) hS3 fun s2 hm2 hS4=>hR s2 (Moved.trans W.gtrans ((hm.mono more).then_heap (Nat.le_succ _) fun b o hb e=>?_) hm2) hS4⟩
  ·rw [hsb.2 b (fun z:b=S=>hSf (by rw [<- z];exact hb))];exact e
  ·rw [hsb.2 b (fun z:b=S=>hb (by rw [z];exact List.mem_cons_self))];exact e
end
section
variable {prog:Program} {w:World} {A:Around} {E:Value->Shared->Prop} {s:Shared}
abbrev nSet (led:Bool):Obj:={ cls:=.type "set",dict:=none,data:=.set #[] 0 (.fresh 0 0 led) }
theorem set_texts {l:Addr} {items:Array Value} {val:Nat->Str} {Q:Value->Shared->Prop} (hh:A.handled=none) (hl:s.heap.IsList l items) (hv:∀ (i:Nat) (v:Value),items[i]?=some v->∃ t,v=.str (val i) t) (hb:items.size + 1 < scanBound)
  (h:∀ (g:Heap) (tk:Nat),SetS prog w g s.heap.objs.size val items.size->(∀ b o,b < s.heap.objs.size->s.heap.get? b=some o->g.get? b=some o)->Q (.ref s.heap.objs.size) { s with heap:=g,toks:=tk }) :
  wpAny (model prog w) A (call (.type "set") [.ref l]) Q E s:=by
 obtain ⟨c,tl,hmro⟩:=F.called_set.mro
 have hmade:=F.called_set.made
 have hsub:=F.called_set.sub
 refine wpAny_call (codeAny_of_tree ?_)
 show wpAny _ _ (callAny (.type "set") _) _ _ _
 refine wpAny_pure ⟨Code.quiet_builtin _ (by decide +kernel),codeAny_builtin F.entry_type_call ?_⟩
 rw [Around.under_plain (weight_type_call_type "set" [.ref l] []) rfl]
 have h1:=F.called_set.notType
 have h2:=F.called_set.canCreate
 have hct:=F.typeCall_set_1 (.ref l)
 repeat (any_goals (first | assumption | wp_step))
 refine codeAny_mono (code_set_new_1 (.ref l) (E:=E) (Q₁:=fun obj s1=>∃ led:Bool,obj=.ref s.heap.objs.size/\s1 = { s with heap:=s.heap.push (nSet led) }) fun led=>⟨led,rfl,rfl⟩) fun r s1 hr=>?_
 cases r with
 | error e=>exact hr
 | ok fl=>
  cases fl with
  | ret obj=>
   obtain ⟨led,rfl,rfl⟩:=hr
   have gS:(s.heap.push (nSet led)).get? s.heap.objs.size=some (nSet led):=Heap.get?_push_size _ rfl
   have hT:Shared.TypeIs { s with heap:=s.heap.push (nSet led) } (.ref s.heap.objs.size) "set":=⟨_,gS,rfl⟩
   have hli:=F.called_set.init.lookup
   have hbi:=F.called_set.init.bind (.ref s.heap.objs.size)
   repeat (any_goals (first | assumption | wp_step))
   refine codeAny_mono (codeAny_call_builtin (R:=wants (fun r s2=>r=.none/\∃ g tk,s2 = { s with heap:=g,toks:=tk }/\SetS prog w g s.heap.objs.size val items.size/\(∀ b o,b < s.heap.objs.size->s.heap.get? b=some o->g.get? b=some o)) E)
    F.called_set.init.plain F.entry_set_init (check_set_init_1 hT ?_)) fun r2 s2 hr2=>?_
   ·obtain ⟨⟨ocls,odict,odata,oslots⟩,hol,hcl,nl,hdl⟩:=hl
    simp only at hcl hdl
    subst hcl;subst hdl
    have hol':(s.heap.push (nSet led)).get? l=some { cls:=.type "list",dict:=odict,data:=.seq items nl,slots:=oslots }:=Heap.get?_push_of_some _ hol
    have hsls:=F.sub_list_set
    have hslf:=F.sub_list_frozenset
    have hne:(Value.type "list" == Value.type "dict")=false:=by decide
    have hl1:(s.heap.push (nSet led)).IsList l items:=⟨_,hol',rfl,nl,rfl⟩
    unfold Builtin.«set.__init__» noKeywords Builtin.Frozenset.updateFrom
    generalize hPI:pyIter=PI
    wp_walk
    subst hPI
    refine wpAny_pyIter_list hl1 (wpAny_bind (wpAny_runValue ?_))
    have hlS:l < s.heap.objs.size:=Heap.lt_size hol
    have sz:(s.heap.push (nSet led)).objs.size=s.heap.objs.size + 1:=Heap.size_push _ _
    refine set_turns ((Walks.list (A:=A.in1.in1.in1) (by simp [hh]) _ l (by rw [sz];exact Nat.ne_of_lt (Nat.lt_succ_of_lt hlS)) items).toS) s.heap.objs.size (by rw [sz];simp;exact Nat.ne_of_gt hlS) val hv hb (items.size - 0) 0 _ (by omega) (Nat.zero_le _) ⟨⟨_,Heap.get?_push_size _ rfl,rfl,rfl⟩,(hl1.push _)⟩ ?z0 ?zR
    case z0=>
     exact SetOf_congr ((setObjOf_fresh (knd:=PySem.strKind prog w) led).setOf (Heap.get?_push_of_some _ gS) (by unfold scanBound;omega)) (fun _=>rfl) rfl
    case zR=>
     intro s' hm hS'
     obtain ⟨g,g',d',tk',os'⟩:=s'
     have eg:g'=s.gens:=hm.gens
     have ed:d'=s.drawn:=hm.drawn
     have eo:os'=s.os:=hm.os
     subst eg;subst ed;subst eo
     show wpAny _ _ _ _ _ _
     refine wpAny_pure ?_
     show wpAny _ _ (ret Value.none) _ _ _
     refine wpAny_pure ⟨rfl,g,tk',rfl,hS',fun b o hb e=>hm.heap b o ?_ (Heap.get?_push_of_some _ (Heap.get?_push_of_some _ e))⟩
     rw [sz];simp;exact ⟨Nat.ne_of_lt hb,Nat.ne_of_lt (Nat.lt_succ_of_lt hb)⟩
   ·cases r2 with
    | error e=>exact hr2
    | ok fl2=>
     cases fl2 with
     | ret r=>
      obtain ⟨rfl,g,tk,rfl,hS',hk'⟩:=hr2
      repeat (any_goals (first | assumption | wp_step))
      exact h _ _ hS' hk'
     | _=>exact hr2.elim
  | _=>exact hr.elim
end
end L2
namespace L2
open PySem PySem.Spec PyProof.Rows PySem.W
def manyS (zs:List Str):Nat:=(metS (fun i=>zs.getD i Str.empty) zs.length).length
theorem manyS_nodup {zs:List Str} (h:zs.Nodup):manyS zs=zs.length:=by
 refine (metS_nodup zs.length fun i j hi hj q=>?_).1
 simp only [List.getD_eq_getElem?_getD,List.getElem?_eq_getElem hi,List.getElem?_eq_getElem hj,Option.getD_some] at q
 exact (List.getElem_inj h).mp q
def setO (P:Program) (w:World) (a:Addr) (zs:List Str):HO:=.ext fun h=>SetS P w h a (fun i=>zs.getD i Str.empty) zs.length
section
variable {X:Cx}
theorem strs_get {zs:List Str} {its:List Value} (r:StrsAre its zs):∀ (i:Nat) (v:Value),its.toArray[i]?=some v->∃ t,v=.str (zs.getD i Str.empty) t:=by
 induction r with
 | nil=>intro i v h;simp at h
 | cons x t r ih=>
  intro i v h
  cases i with
  | zero=>simp at h;exact ⟨t,h.symm⟩
  | succ i=>simp at h;exact ih i v (by simpa using h)
theorem call_setS (hc:X.calm=true):CallR X (.type "set") (fun xs H Q=>∃ (a:Addr) (zs:List Str),xs=[.ref a]/\H a=some (.lst (zs.map V.str))/\zs.length < 1000/\∀ p,H p=none->Q (.ref p) (upd H p (setO X.prog X.w p zs))):=by
 intro pins s σ H xs us Q I r h
 obtain ⟨a,zs,rfl,hA,hz,q⟩:=h
 obtain ⟨u,rfl,rx⟩:=vals1 r
 cases rx
 obtain ⟨its,r',pl,hzl⟩:=I.list (.of hA)
 have hst:=strs_of r'
 have hl:its.length=zs.length:=by have:=r'.length;rw [List.length_map] at this;exact this.symm
 have hsz:its.toArray.size=zs.length:=by rw [List.size_toArray];exact hl
 refine set_texts (I.ok.hd hc) pl.isList (strs_get hst) (by rw [hsz];unfold scanBound;omega) fun g tk hS old=>?_
 rw [hsz] at hS
 have k:∀ b o,s.heap.get? b=some o->g.get? b=some o:=fun b o z=>old b o (Heap.lt_size z) z
 refine ⟨.ref s.heap.objs.size,_,I.laid (t':=tk) (h':=g) (o:=setO X.prog X.w s.heap.objs.size zs) k (Nat.le_refl _) ⟨hS,?_,fun h1 h2 x st=>setS_stay x st⟩,rfl,q _ (I.hok.fresh (Nat.le_refl _))⟩
 obtain ⟨o,_,_,_,ho,_⟩:=hS
 exact ⟨o,ho⟩
theorem call_lenSet:CallR X (.builtin "len") (fun xs H Q=>∃ (p:Addr) (zs:List Str),xs=[.ref p]/\H p=some (setO X.prog X.w p zs)/\zs.length < 1000/\Q (.int (manyS zs)) H):=by
 intro pins s σ H xs us Q I r h
 obtain ⟨p,zs,rfl,hP,hz,q⟩:=h
 obtain ⟨u,rfl,rx⟩:=vals1 r
 cases rx
 obtain ⟨hS,_,_⟩:=I.hok p _ hP
 obtain ⟨o,es,ep,t,ho,hex,hd,hel,hmem,hb,hf,hn⟩:=hS
 have le:=metS_le (fun i=>zs.getD i Str.empty) zs.length
 have en:es.size=manyS zs:=hn
 have lm:manyS zs <= zs.length:=le
 refine call_len_set ho hex hd hf (by rw [en];omega) ⟨.int (manyS zs),H,I.tok _,⟨s.toks + 1,by rw [en]⟩,q⟩
def minS (a b:Str):Str:=if ltS b a then b else a
def maxS (a b:Str):Str:=if ltS a b then b else a
theorem two_at {a b:Str} {t u:Tok} (i:Nat) (v:Value) (h:#[Value.str a t,.str b u][i]?=some v):(i=0/\v=.str a t) \/ (i=1/\v=.str b u):=by
 cases i with
 | zero=>simp at h;exact .inl ⟨rfl,h.symm⟩
 | succ i=>cases i with
  | zero=>simp at h;exact .inr ⟨rfl,h.symm⟩
  | succ i=>simp at h
section
variable {prog:Program} {w:World} {A:Around} {E:Value->Shared->Prop} {s:Shared}
abbrev wS (a b:Str) (i:Nat):Str:=if i=0 then a else b
theorem cmp_lt {a b:Str} {t u:Tok}:CmpOf prog w A .Lt (fun i v=>#[Value.str a t,.str b u][i]?=some v) (fun i j=>ltS (wS a b i) (wS a b j)):=fun i j vi vj s Q E hi hj q=>by
 rcases two_at i vi hi with ⟨rfl,rfl⟩ | ⟨rfl,rfl⟩ <;> rcases two_at j vj hj with ⟨rfl,rfl⟩ | ⟨rfl,rfl⟩ <;> exact PyProof.Rows.lt_str q
theorem cmp_gt {a b:Str} {t u:Tok}:CmpOf prog w A .Gt (fun i v=>#[Value.str a t,.str b u][i]?=some v) (fun i j=>ltS (wS a b j) (wS a b i)):=fun i j vi vj s Q E hi hj q=>by
 rcases two_at i vi hi with ⟨rfl,rfl⟩ | ⟨rfl,rfl⟩ <;> rcases two_at j vj hj with ⟨rfl,rfl⟩ | ⟨rfl,rfl⟩ <;> exact PySem.P.gt_str q
theorem walk_two {op:CmpOp} {bt:Nat->Nat->Bool} {x:Addr} {a b z:Str} {t u:Tok} {Q:Value->Shared->Prop} (hh:A.handled=none) (hT:s.heap.IsTuple x #[.str a t,.str b u]) (hc:CmpOf prog w A op (fun i v=>#[Value.str a t,.str b u][i]?=some v) bt)
  (hz:∀ v,#[Value.str a t,.str b u][argBest bt 1]?=some v->∃ t,v=.str z t) (h:∀ h' tk t,(∀ c o,s.heap.get? c=some o->h'.get? c=some o)->Q (.str z t) { s with heap:=h',toks:=tk }) :
  wpAny (model prog w) A (pyIter (.ref x)) (fun it s2=>∃ I fp wr n P St bt,it=.ref I/\Walks prog w A I fp wr n P St/\St 0 s2.heap/\(∀ b ∈ fp,b < s2.heap.objs.size)/\0 < n/\CmpOf prog w A op P bt /\
   ∀ v h' tk,P (argBest bt (n - 1)) v->(∀ b o,b ∉ wr->s2.heap.get? b=some o->h'.get? b=some o)->Q v { s2 with heap:=h',toks:=tk }) E s:=by
 have hx:x < s.heap.objs.size:=by obtain ⟨o,ho,_⟩:=hT;exact Heap.lt_size ho
 refine wpAny_pyIter_tuple hT ⟨_,[_,x],[_],_,_,_,bt,rfl,Walks.tuple hh _ x (Nat.ne_of_lt hx) #[.str a t,.str b u],⟨⟨_,Heap.get?_push_size _ rfl,rfl,rfl⟩,hT.push _⟩,fun c hc=>?_,Nat.zero_lt_succ _,hc,fun v h' tk hP hk=>?_⟩
 ·show c < (s.heap.push _).objs.size
  rw [Heap.size_push]
  simp only [List.mem_cons,List.not_mem_nil,or_false] at hc
  rcases hc with rfl | rfl
  ·exact Nat.lt_succ_self _
  ·exact Nat.lt_succ_of_lt hx
 ·obtain ⟨t',rfl⟩:=hz v hP
  refine h h' tk t' fun c o e=>hk c o (fun hm=>?_) (Heap.get?_push_of_some _ e)
  simp only [List.mem_cons,List.not_mem_nil,or_false] at hm
  exact absurd (Heap.lt_size e) (by rw [hm];exact Nat.lt_irrefl _)
end
theorem best_min {a b:Str} {t u:Tok} (v:Value) (h:#[Value.str a t,.str b u][argBest (fun i j=>ltS (wS a b i) (wS a b j)) 1]?=some v):∃ t,v=.str (minS a b) t:=by
 have e:argBest (fun i j=>ltS (wS a b i) (wS a b j)) 1=if ltS b a then 1 else 0:=rfl
 rw [e] at h
 unfold minS
 cases c:ltS b a with
 | true=>rw [c] at h;simp at h;exact ⟨u,by simp [<- h]⟩
 | false=>rw [c] at h;simp at h;exact ⟨t,by simp [<- h]⟩
theorem best_max {a b:Str} {t u:Tok} (v:Value) (h:#[Value.str a t,.str b u][argBest (fun i j=>ltS (wS a b j) (wS a b i)) 1]?=some v):∃ t,v=.str (maxS a b) t:=by
 have e:argBest (fun i j=>ltS (wS a b j) (wS a b i)) 1=if ltS a b then 1 else 0:=rfl
 rw [e] at h
 unfold maxS
 cases c:ltS a b with
 | true=>rw [c] at h;simp at h;exact ⟨u,by simp [<- h]⟩
 | false=>rw [c] at h;simp at h;exact ⟨t,by simp [<- h]⟩
theorem tup_two {pins:List (Addr × Obj)} {σ:St} {H:Hp} {s:Shared} (I:Inv X pins σ H s) {x:Addr} {a b:Str} (h:H x=some (.tup [.str a,.str b])):∃ t u,s.heap.IsTuple x #[.str a t,.str b u]:=by
 obtain ⟨its,r,pl,_⟩:=I.tuple (.of h)
 cases r with
 | cons r1 r=>
 cases r with
 | cons r2 r=>
 cases r
 obtain ⟨t1,rfl⟩:=r1
 obtain ⟨t2,rfl⟩:=r2
 exact ⟨t1,t2,pl⟩
theorem call_minT (hc:X.calm=true):CallR X (.builtin "min") (fun xs H Q=>∃ (x:Addr) (a b:Str),xs=[.ref x]/\H x=some (.tup [.str a,.str b])/\Q (.str (minS a b)) H):=by
 intro pins s σ H xs us Q I r h
 obtain ⟨x,a,b,rfl,hx,q⟩:=h
 obtain ⟨u,rfl,rx⟩:=vals1 r
 cases rx
 obtain ⟨t,u,hT⟩:=tup_two I hx
 exact call_min_walk (walk_two (I.ok.hd hc) hT cmp_lt best_min fun h' tk t' k=>⟨.str (minS a b),H,I.kept k,⟨t',rfl⟩,q⟩)
theorem call_maxT (hc:X.calm=true):CallR X (.builtin "max") (fun xs H Q=>∃ (x:Addr) (a b:Str),xs=[.ref x]/\H x=some (.tup [.str a,.str b])/\Q (.str (maxS a b)) H):=by
 intro pins s σ H xs us Q I r h
 obtain ⟨x,a,b,rfl,hx,q⟩:=h
 obtain ⟨u,rfl,rx⟩:=vals1 r
 cases rx
 obtain ⟨t,u,hT⟩:=tup_two I hx
 exact call_max_walk (walk_two (I.ok.hd hc) hT cmp_gt best_max fun h' tk t' k=>⟨.str (maxS a b),H,I.kept k,⟨t',rfl⟩,q⟩)
end
end L2
namespace L2
open PySem PySem.Spec PyProof.Rows
theorem dc_loop {prog:Program} {w:World} {A:Around} {R:Result->Shared->Prop} {s:Shared} {kx vx target iter:Expr} {ifs:List Expr} {scope:Scope} {pos:Pos} {it:Value} {D:Addr} {env:Env} (J:Nat->Shared->Prop)
  (turn:∀ n s,J n s->wpAny (model prog w) A (pyNext it) (fun r s1=>match r with
   | none=>R (.ok .next) s1
   | some v=>wpAny (model prog w) A (letOwnedTupleGo target it v) (fun _ s1'=>wpAny (model prog w) A (assign target env v) (fun _ s2=>
     wpAny (model prog w) A (forIn ifs true fun c r=>if r=true then do let ok <- isTrue c env (eval c env);pure (ForInStep.yield ok) else pure (ForInStep.yield r)) (fun ok s3=>
      if ok=true then wpAny (model prog w) A (eval kx env) (fun y s4=>wpAny (model prog w) A (eval vx env) (fun x s5=>
       wpAny (model prog w) A (dictSet D y x) (fun _ s6=>∃ m,m < n/\J m s6) (fun _ _=>False) s5) (fun _ _=>False) s4) (fun _ _=>False) s3
      else ∃ m,m < n/\J m s3) (fun _ _=>False) s2) (fun _ _=>False) s1') (fun _ _=>False) s1) (fun _ _=>False) s)
  (n:Nat) (h:J n s):codeAny (model prog w) A (.compLoop (.DictComp kx vx [⟨target,iter,ifs,0⟩] scope pos) 0 it (.ref D) env) R s:=by
 refine codeAny_loop rfl J (fun n s hJ=>?_) n h
 have nof:∀ (e:Value) (s':Shared),False->notedBy (model prog w) A env (fun e s'=>R (.error e) s') e s':=fun _ _ f=>f.elim
 show wpAny (model prog w) A ((compTurn (.DictComp kx vx [⟨target,iter,ifs,0⟩] scope pos) 0 it (.ref D) env).onRaise (fun x=>do noteFrame x env;theTreesLotGoes x)) _ _ s
 refine wpAny_noted ?_
 rw [compTurn_dict]
 refine wpAny_bind (wpAny_standAt (wpAny_bind (wpAny_mono (turn n s hJ) (fun r s1 h1=>?_) nof)))
 cases r with
 | none=>exact wpAny_pure h1
 | some v=>
  refine wpAny_bind (wpAny_mono h1 (fun _ s1' h1'=>?_) nof)
  refine wpAny_bind (wpAny_mono h1' (fun _ s2 h2=>?_) nof)
  refine wpAny_bind (wpAny_mono h2 (fun ok s3 h3=>?_) nof)
  cases ok with
  | false=>exact wpAny_pure ⟨rfl,h3⟩
  | true=>
   refine wpAny_bind (wpAny_bind (wpAny_mono h3 (fun y s4 h4=>?_) nof))
   refine wpAny_bind (wpAny_holding (wpAny_mono h4 (fun x s5 h5=>?_) nof))
   exact wpAny_bind (wpAny_standAt (wpAny_holding (wpAny_mono h5 (fun _ s6 h6=>wpAny_pure ⟨rfl,h6⟩) nof)))
def DCW (J:It) (xs:List Str) (ix:List Nat) (g:TG) (tt:TT) (ty te:TE) (σ:St) (H1:Hp) (acc:Addr) (Q:VK):Prop:=
 ∃ W:Nat->Nat->List (Key × V)->St->Hp->Prop,(∃ m,W 0 m [] (stC xs ix σ) (upd H1 acc (.dK []))) /\
  ∀ i m ys τ H,W i m ys τ H->H acc=some (.dK ys)/\ys.length < sizeLine /\
   ((J.stop i H/\Q (.ref acc) H) \/ (J.go i H/\∃ N:List (Key × V)->St->Hp->Prop,(∀ ys' τ' H',N ys' τ' H'->∃ m',m' < m/\W (i + 1) m' ys' τ' H') /\
    ∀ x H',J.yld i H x H'->g x τ H' fun τ2 H2=>tt τ2 H2 fun b H3=>
    if b=true then ty τ2 H3 fun z H4=>te τ2 H4 fun y H5=>∃ k,z=kV k/\H5 acc=some (.dK ys)/\N (putK ys k y) τ2 (upd H5 acc (.dK (putK ys k y))) else N ys τ2 H3))
def tDC (xs:List Str) (ix:List Nat) (wi:TI) (g:TG) (tt:TT) (ty te:TE):TE:=fun σ H Q=>wi σ H fun J H1=>∀ acc,H1 acc=none->DCW J xs ix g tt ty te σ H1 acc Q
theorem d_dictSet {X:Cx} {pins:List (Addr × Obj)} {σ:St} {H:Hp} {s:Shared} {A:Around} {E:Value->Shared->Prop} {a:Addr} {k:Key} {v:V} {u r:Value} {kvs:List (Key × V)} {Q:Unit->Shared->Prop} (I:Inv X pins σ H s) (e:H a=some (.dK kvs)) (l:kvs.length < sizeLine) (ry:RelV (kV k) u) (rv:RelV v r)
  (h:∀ s',Inv X pins σ (upd H a (.dK (putK kvs k v))) s'->Q () s'):wpAny (model X.prog X.w) A (dictSet a u r) Q E s:=by
 obtain ⟨z,hd,vs,rel,dd⟩:=dk_of I.hok e
 have hz:vs.length <= sizeLine:=by rw [<- rel.length];exact z
 have hl:(putK kvs k v).length <= sizeLine:=by have:=length_putK kvs k v;omega
 refine wpAny_dictSet_pairs (hsz:=hz) (kV_is ry) dd fun h' dd' hs=>h _ (d_write I (by rw [e];exact True.intro) hs ?_ (dk_new hl hd (rel.put k rv) dd'))
 obtain ⟨q,_,_,hq,_⟩:=dd'
 exact ⟨q,hq⟩
theorem dc_coreG {Reg:Cx->Prop} {X:Cx} {xs:List Str} {ix:List Nat} {scope:Scope} {kx vx tg iter:Expr} {ifs:List Expr} {pos:Pos} {wi:TI} {g:TG} {tt:TT} {ty te:TE}
  (S:CompScope X xs ix scope) (hreg:∀ Y:Cx,Y.K=X.K->Y.calm=X.calm->Y.A.handled=X.A.handled->Reg Y) (hi:PIG Reg X tg iter wi)
  (hg:∀ C fp s H,PG (cxC X xs ix scope C fp s H) tg g) (ht:∀ C fp s H,PTs (cxC X xs ix scope C fp s H) ifs tt) (hy:∀ C fp s H,PE (cxC X xs ix scope C fp s H) kx ty) (he:∀ C fp s H,PE (cxC X xs ix scope C fp s H) vx te)
  {pins:List (Addr × Obj)} {s:Shared} {σ:St} {H:Hp} {Q:VK} (I:Inv X pins σ H s) (h:tDC xs ix wi g tt ty te σ H Q) {use:Option (Value->Sem Unit)} {R:Value->Shared->Prop}
  (fin:∀ (acc C:Addr) (H':Hp) (s':Shared) (m:Str->Option Value),Q (.ref acc) H'->s'.heap.Ns C m->(∀ h',Heap.SameBut C s'.heap h'->∀ tk,Inv X pins σ H' { s' with heap:=h',toks:=tk })->(X.s₀.heap.objs.size <= C/\C ≠ X.env.locals/\(∀ x c,X.env.cells.lookup x=some c->c ≠ C)/\(∀ p ∈ X.pn ++ pins,p.1 ≠ C)/\H' C=none)->compPost (model X.prog X.w) X.A X.xe use R (.ref acc) C (.ok .next) s') :
  wpAny (model X.prog X.w) X.A (eval iter X.env) (fun x s₁=>wpAny (model X.prog X.w) X.A (pyIter x) (fun it s₂=>wpAny (model X.prog X.w) X.A newDict (fun acc s₃=>
   wpAny (model X.prog X.w) X.A (newFunctionEnv scope X.env.globals (clF X.env scope.names []) [] X.env.qual none .none (some X.env)) (fun cenv s₄=>
    codeAny (model X.prog X.w) X.A (.compStart (.DictComp kx vx [⟨tg,iter,ifs,0⟩] scope pos) 0 it acc { cenv with scope:=relabel scope X.env }) (compPost (model X.prog X.w) X.A X.xe use R acc cenv.locals) s₄) X.xe s₃) X.xe s₂) X.xe s₁) X.xe s:=by
 refine thn (hi pins s σ H _ I h) fun v s1 h1=>thn h1 fun itv s2 h2=>?_
 obtain ⟨it,fp,tn,J,H2,rfl,I2,T,st2,f2,q⟩:=h2
 refine wpAny_newObj_type ?_
 have I3:Inv X pins σ (upd H2 s2.heap.objs.size (.dK [])) { s2 with heap:=s2.heap.push { cls:=.type "dict",data:=.dict #[] },toks:=s2.toks }:=I2.laid (a:=s2.heap.objs.size) (o:=.dK []) (t':=s2.toks) (fun _ _ q=>Heap.get?_push_of_some _ q) (Nat.le_refl _) (dk_empty s2.heap I2.big)
 obtain ⟨W,⟨m0,w0⟩,turn⟩:=q s2.heap.objs.size I2.fresh
 have objs2:=T.obj 0 _ st2
 have neacc:∀ b ∈ fp,b ≠ s2.heap.objs.size:=fun b hb z=>by
  obtain ⟨o,ho,_⟩:=objs2 b hb
  exact Nat.lt_irrefl _ (Nat.lt_of_lt_of_eq (Heap.lt_size ho) z.symm)
 generalize hacc:s2.heap.objs.size=acc at *
 generalize hs3:({ s2 with heap:=s2.heap.push { cls:=.type "dict",data:=.dict #[] } }:Shared)=s3
 have I3:Inv X pins σ (upd H2 acc (.dK [])) s3:=by rw [<- hs3];exact I3
 have k3:∀ b o,s2.heap.get? b=some o->s3.heap.get? b=some o:=fun b o e=>by rw [<- hs3];exact Heap.get?_push_of_some _ e
 have f3:∀ b ∈ fp,FpOk X pins (upd H2 acc (.dK [])) b:=fun b hb=>⟨by rw [upd_ne (neacc b hb)];exact (f2 b hb).1,(f2 b hb).2⟩
 have o3:∀ b ∈ fp,∃ o,s3.heap.get? b=some o:=fun b hb=>let ⟨o,ho,_⟩:=objs2 b hb;⟨o,k3 b o ho⟩
 have st3:tn 0 s3.heap:=T.keep _ _ _ st2 fun b _ o e=>k3 b o e
 refine wpAny_newFunctionEnv S.nocell (by intro y hy;simp at hy) (fun h1 hns1 hsb1=>?_) S.kind
 have keep1:∀ b o,s3.heap.get? b=some o->h1.get? b=some o:=fun b o e=>hsb1.extBut b o (Nat.ne_of_lt (Heap.lt_size e)) (Heap.get?_push_of_some _ e)
 generalize hs4:({ s3 with heap:=h1,toks:=s3.toks + ([]:List (Str × Value)).length }:Shared)=s4
 have I4:Inv (cxC X xs ix scope s3.heap.objs.size fp s3 (upd H2 acc (.dK []))) [] (stC xs ix σ) (upd H2 acc (.dK [])) s4:=block_start S I3 f3 o3 hns1 keep1 hs4.symm
 have st4:tn 0 s4.heap:=T.keep _ _ _ st3 fun b _ o e=>by rw [<- hs4];exact keep1 b o e
 generalize hX':cxC X xs ix scope s3.heap.objs.size fp s3 (upd H2 acc (.dK []))=X' at *
 have hg:=hg s3.heap.objs.size fp s3 (upd H2 acc (.dK []))
 have ht:=ht s3.heap.objs.size fp s3 (upd H2 acc (.dK []))
 have he:=he s3.heap.objs.size fp s3 (upd H2 acc (.dK []))
 have hy:=hy s3.heap.objs.size fp s3 (upd H2 acc (.dK []))
 rw [hX'] at hg ht he hy
 have eP:X'.prog=X.prog:=by rw [<- hX'];rfl
 have ew:X'.w=X.w:=by rw [<- hX'];rfl
 have eK:X'.K=X.K:=by rw [<- hX'];rfl
 have eA:X'.A=X.A:=by rw [<- hX'];rfl
 have ec:Reg X':=hreg X' eK (by rw [<- hX'];rfl) (by rw [<- hX'];rfl)
 have ex:X'.xe=fun _ _=>False:=by rw [<- hX'];rfl
 have eenv:X'.env=compEnvC scope (clF X.env scope.names []) s3.heap.objs.size X.env:=by rw [<- hX'];rfl
 have eex:X'.ex=fp:=by rw [<- hX'];rfl
 have efs:X'.fs=frs X.stack:=by rw [<- hX'];rfl
 have epn:X'.pn=[]:=by rw [<- hX'];rfl
 have eH0:X'.H₀=upd H2 acc (.dK []):=by rw [<- hX'];rfl
 have es0:X'.s₀=s3:=by rw [<- hX'];rfl
 have eloc:X'.env.locals=s3.heap.objs.size:=by rw [eenv];rfl
 have stat:∀ {H':Hp},(∀ b ∈ fp,H' b=none)->∀ b ∈ fp,FpOk X' [] H' b:=fun {H'} hn b hb=>by
  refine ⟨hn b hb,?_,?_,.inl (by rw [eex];exact hb),?_,?_⟩
  ·rw [eloc]
   intro z
   obtain ⟨o,ho⟩:=o3 b hb
   exact Nat.lt_irrefl _ (Nat.lt_of_lt_of_eq (Heap.lt_size ho) z.symm)
  ·exact I4.ok.exfs b (by rw [eex];exact hb)
  ·exact (I4.ok.exf b (by rw [eex];exact hb)).2
  ·rw [epn];intro p hp;exact absurd hp (by simp)
 have loop:codeAny (model X.prog X.w) X.A (.compLoop (.DictComp kx vx [⟨tg,iter,ifs,0⟩] scope pos) 0 (.ref it) (.ref acc) X'.env) (compPost (model X.prog X.w) X.A X.xe use R (.ref acc) s3.heap.objs.size) s4:=by
  refine dc_loop (fun n s'=>∃ i ys τ H',Inv X' [] τ H' s'/\tn i s'.heap/\(∀ b ∈ fp,H' b=none)/\W i n ys τ H') ?_ m0 ⟨0,[],_,_,I4,st4,fun b hb=>(f3 b hb).1,w0⟩
  rintro n s5 ⟨i,ys,τ,H5,I5,st5,fr5,w5⟩
  obtain ⟨ha5,hz5,way⟩:=turn i n ys τ H5 w5
  rcases way with ⟨stop,qn⟩ | ⟨go,N,hN,step⟩
  ·have d:=T.done X' eP ew ec i [] s5 τ H5 (fun _ _=>False) I5 (stat fr5) st5 stop
   rw [eA] at d
   refine thn d fun r s6 hz60=>?_
   obtain ⟨hr,I6⟩:=hz60
   subst hr
   obtain ⟨m,hn6,_⟩:=id I6.loc
   rw [eloc] at hn6
   refine fin acc s3.heap.objs.size H5 s6 m qn hn6 (fun h' hsb tk=>?_) ⟨I3.sz,Ne.symm (Nat.ne_of_lt I3.lt),fun x c e z=>by
    obtain ⟨v,oc,hoc,_⟩:=I3.cell x c e
    exact Nat.lt_irrefl _ (Nat.lt_of_lt_of_eq (Heap.lt_size hoc) z.symm),fun p hp z=>Nat.lt_irrefl _ (Nat.lt_of_lt_of_eq (Heap.lt_size (I3.pin p hp).1) z.symm),by have:=I6.free;rw [eloc] at this;exact this⟩
   have same:∀ b,b ≠ s3.heap.objs.size->h'.get? b=s6.heap.get? b:=fun b hb=>hsb.2 b hb
   have ub:=I6.base
   rw [efs,eex,eH0,es0] at ub
   have ne3:∀ b o,s3.heap.get? b=some o->b ≠ s3.heap.objs.size:=fun b o e=>Nat.ne_of_lt (Heap.lt_size e)
   have u:Un (frs X.stack) fp (upd H2 acc (.dK [])) H5 s3.heap h':=
    ⟨fun b o e n1 n2 n3=>(same b (ne3 b o e)).trans (ub.keep b o e n1 n2 n3),fun b o e n1 n2 n3=>by
      obtain ⟨sl,z⟩:=ub.slot b o e n1 n2 n3
      exact ⟨sl,(same b (ne3 b o e)).trans z⟩,ub.free,fun b o e n3=>by
      obtain ⟨o',z⟩:=ub.there b o e n3
      exact ⟨o',(same b (ne3 b o e)).trans z⟩,ub.tups,ub.frzs,ub.tbls⟩
   have fC:H5 s3.heap.objs.size=none:=by have:=I6.free;rw [eloc] at this;exact this
   have hok:HOk X.prog X.w H5 h':=fun b o e=>by
    have z:=I6.hok b o e
    rw [eP,ew] at z
    refine z.stay (fun c u hc q=>(same c ?_).trans q) (fun _ q=>q) fun _ _ q=>q
    intro zc
    rcases hc with q1 | q1
    ·rw [<- q1,zc,fC] at e;cases e
    ·rw [zc,fC] at q1;cases q1
   have hch:∀ b ∈ fp,(b ∈ X.ex \/ X.s₀.heap.objs.size <= b)/\b ≠ X.env.locals/\(∀ x c,X.env.cells.lookup x=some c->c ≠ b)/\∀ p ∈ X.pn ++ pins,p.1 ≠ b:=fun b hb=>by
    obtain ⟨_,f1,_,g3,g4,g5⟩:=f3 b hb
    exact ⟨g3,f1,g4,g5⟩
   have ho:s6.os=s3.os:=by have:=I6.os;rw [es0] at this;exact this
   exact I3.call' (s':={ s6 with heap:=h',toks:=tk }) (ch:=fp) ho u hok I6.bare hch
  ·have d:=T.item X' eP ew ec i [] s5 τ H5 (fun _ _=>False) I5 (stat fr5) st5 go
   rw [eA] at d
   refine thn d fun r s6 hz61=>?_
   obtain ⟨u,hr,h6⟩:=hz61
   subst hr
   refine thn h6 fun _ s7 hz62=>?_
   obtain ⟨x,H7,I7,r7,y7,st7,fr7⟩:=hz62
   have I7':=I7.pinned (stat fr7) (T.obj _ _ st7)
   have dg:=hg _ s7 τ H7 x u _ I7' r7 (step x H7 y7)
   rw [eP,ew,eA,ex] at dg
   refine thn dg fun _ s8 hz63=>?_
   obtain ⟨τ8,H8,I8,q8⟩:=hz63
   have dt:=ht _ s8 τ8 H8 _ I8 q8
   rw [eP,ew,eA,ex] at dt
   refine thn dt fun ok s9 hz64=>?_
   obtain ⟨H9,I9,q9⟩:=hz64
   have again:∀ {τ':St} {H':Hp} {s':Shared},Inv X' ([] ++ pinsAt fp s7.heap) τ' H' s'->Inv X' [] τ' H' s'/\tn (i + 1) s'.heap/\∀ b ∈ fp,H' b=none:=fun {τ' H' s'} Ie=>by
    refine ⟨Ie.unpinned,T.keep _ _ _ st7 fun b hb o e=>(Ie.pin (b,o) (List.mem_append_right _ (List.mem_append_right _ (mem_pinsAt hb e)))).1,fun b hb=>?_⟩
    obtain ⟨o,e,_⟩:=T.obj _ _ st7 b hb
    exact (Ie.pin (b,o) (List.mem_append_right _ (List.mem_append_right _ (mem_pinsAt hb e)))).2.1
   cases ok with
   | false=>
    rw [if_neg Bool.false_ne_true] at q9 ⊢
    obtain ⟨m',hm,w9⟩:=hN _ _ _ q9
    obtain ⟨z1,z2,z3⟩:=again I9
    exact ⟨m',hm,i + 1,ys,τ8,H9,z1,z2,z3,w9⟩
   | true=>
    rw [if_pos rfl] at q9 ⊢
    have dy:=hy _ s9 τ8 H9 _ I9 q9
    rw [eP,ew,eA,ex] at dy
    refine thn dy fun kv s10 hz65=>?_
    obtain ⟨z,H10,I10,r10,q10⟩:=hz65
    have de:=he _ s10 τ8 H10 _ I10 q10
    rw [eP,ew,eA,ex] at de
    refine thn de fun yv s11 hz66=>?_
    obtain ⟨y,H11,I11,r11,k,ek,ha11,n11⟩:=hz66
    subst ek
    obtain ⟨m',hm,w11⟩:=hN _ _ _ n11
    have dm:=d_dictSet (X:=X') (A:=X.A) (E:=fun _ _=>False) (Q:=fun _ s'=>∃ m,m < n/\∃ i ys τ H',Inv X' [] τ H' s'/\tn i s'.heap/\(∀ b ∈ fp,H' b=none)/\W i m ys τ H') I11 ha11 hz5 r10 r11 fun s12 I12=>by
     obtain ⟨z1,z2,z3⟩:=again I12
     exact ⟨m',hm,i + 1,putK ys k y,τ8,_,z1,z2,z3,w11⟩
    rw [eP,ew] at dm
    exact dm
 have e4:({ newEnv scope s3.heap.objs.size X.env.globals (clF X.env scope.names []) X.env.qual none .none (some X.env) builtinsNs with scope:=relabel scope X.env }:Env)=X'.env:=by rw [eenv];rfl
 rw [eenv] at loop
 have self:=T.self X.A 0 s4 (fun it' s'=>codeAny (model X.prog X.w) X.A (.compLoop (.DictComp kx vx [⟨tg,iter,ifs,0⟩] scope pos) 0 it' (.ref acc) (compEnvC scope (clF X.env scope.names []) s3.heap.objs.size X.env)) (compPost (model X.prog X.w) X.A X.xe use R (.ref acc) s3.heap.objs.size) s')
  (notedBy (model X.prog X.w) X.A (compEnvC scope (clF X.env scope.names []) s3.heap.objs.size X.env) fun x s'=>compPost (model X.prog X.w) X.A X.xe use R (.ref acc) s3.heap.objs.size (.error x) s') st4 loop
 exact codeAny_compStart_dict loop self
theorem dc_core {X:Cx} {xs:List Str} {ix:List Nat} {scope:Scope} {kx vx tg iter:Expr} {ifs:List Expr} {pos:Pos} {wi:TI} {g:TG} {tt:TT} {ty te:TE}
  (S:CompScope X xs ix scope) (hc:X.calm=true) (hi:PI X tg iter wi)
  (hg:∀ C fp s H,PG (cxC X xs ix scope C fp s H) tg g) (ht:∀ C fp s H,PTs (cxC X xs ix scope C fp s H) ifs tt) (hy:∀ C fp s H,PE (cxC X xs ix scope C fp s H) kx ty) (he:∀ C fp s H,PE (cxC X xs ix scope C fp s H) vx te)
  {pins:List (Addr × Obj)} {s:Shared} {σ:St} {H:Hp} {Q:VK} (I:Inv X pins σ H s) (h:tDC xs ix wi g tt ty te σ H Q) {use:Option (Value->Sem Unit)} {R:Value->Shared->Prop}
  (fin:∀ (acc C:Addr) (H':Hp) (s':Shared) (m:Str->Option Value),Q (.ref acc) H'->s'.heap.Ns C m->(∀ h',Heap.SameBut C s'.heap h'->∀ tk,Inv X pins σ H' { s' with heap:=h',toks:=tk })->(X.s₀.heap.objs.size <= C/\C ≠ X.env.locals/\(∀ x c,X.env.cells.lookup x=some c->c ≠ C)/\(∀ p ∈ X.pn ++ pins,p.1 ≠ C)/\H' C=none)->compPost (model X.prog X.w) X.A X.xe use R (.ref acc) C (.ok .next) s') :
  wpAny (model X.prog X.w) X.A (eval iter X.env) (fun x s₁=>wpAny (model X.prog X.w) X.A (pyIter x) (fun it s₂=>wpAny (model X.prog X.w) X.A newDict (fun acc s₃=>
   wpAny (model X.prog X.w) X.A (newFunctionEnv scope X.env.globals (clF X.env scope.names []) [] X.env.qual none .none (some X.env)) (fun cenv s₄=>
    codeAny (model X.prog X.w) X.A (.compStart (.DictComp kx vx [⟨tg,iter,ifs,0⟩] scope pos) 0 it acc { cenv with scope:=relabel scope X.env }) (compPost (model X.prog X.w) X.A X.xe use R acc cenv.locals) s₄) X.xe s₃) X.xe s₂) X.xe s₁) X.xe s:=
 dc_coreG (Reg:=fun Y=>Y.K=X.K/\Y.calm=true) S (fun Y k c _=>⟨k,c.trans hc⟩)
  (fun pins s σ H R I q=>thn (hi pins s σ H R I q) fun v s1 h1=>thn h1 fun itv s2 h2=>by
   obtain ⟨it,fp,tn,J,H',e,I',T,r⟩:=h2
   exact ⟨it,fp,tn,J,H',e,I',⟨T.mem,T.obj,T.keep,fun Y e1 e2 r=>T.item Y e1 e2 r.1 r.2,fun Y e1 e2 r=>T.done Y e1 e2 r.1 r.2,T.self⟩,r⟩) hg ht hy he I h fin
theorem pe_dc {X:Cx} {xs:List Str} {ix:List Nat} {scope:Scope} {kx vx tg iter:Expr} {ifs:List Expr} {pos:Pos} {wi:TI} {g:TG} {tt:TT} {ty te:TE}
  (S:CompScope X xs ix scope) (hc:X.calm=true) (hi:PI X tg iter wi)
  (hg:∀ C fp s H,PG (cxC X xs ix scope C fp s H) tg g) (ht:∀ C fp s H,PTs (cxC X xs ix scope C fp s H) ifs tt) (hy:∀ C fp s H,PE (cxC X xs ix scope C fp s H) kx ty) (he:∀ C fp s H,PE (cxC X xs ix scope C fp s H) vx te)
  (hs:∀ x,foldedSetIterable iter X.env x=pure x:=by intro _;rfl) :
  PE X (.DictComp kx vx [⟨tg,iter,ifs,0⟩] scope pos) (tDC xs ix wi g tt ty te):=by
 intro pins s σ H Q I h
 have hcl:∀ n,(n,NameKind.free) ∈ scope.names->(X.env.cells.lookup n).isSome=true:=fun n hn=>by
  obtain ⟨c,e⟩:=I.ok.has n (S.fre n hn)
  rw [e];rfl
 rw [arm_eval_DictComp]
 refine wpAny_comprehension_free (use:=none) rfl hs (closureFor_clF hcl) S.kind S.loc ?_
 refine dc_core S hc hi hg ht hy he I h fun acc C H' s' m q hn k _=>?_
 exact ⟨m,hn,fun h' hsb=>⟨.ref acc,H',k h' hsb s'.toks,rfl,q⟩⟩
theorem pe_dc1 {X:Cx} {N:List Str} {sc:Scope} {x:Str} {ix:List Nat} {scope:Scope} {kx vx iter:Expr} {ifs:List Expr} {px pos:Pos} {wi:TI} {tt:TT} {ty te:TE}
  (hS:CompS N sc [x] ix scope) (hi:PI X (.Name x px) iter wi)
  (ht:∀ C fp s H,PTs (cxC X [x] ix scope C fp s H) ifs tt) (hy:∀ C fp s H,PE (cxC X [x] ix scope C fp s H) kx ty) (he:∀ C fp s H,PE (cxC X [x] ix scope C fp s H) vx te)
  (hN:X.N=N:=by rfl) (hsc:X.env.scope=sc:=by rfl) (hc:X.calm=true:=by rfl)
  (hs:∀ x,foldedSetIterable iter X.env x=pure x:=by intro _;rfl) :
  PE X (.DictComp kx vx [⟨.Name x px,iter,ifs,0⟩] scope pos) (tDC [x] ix wi (gName 0) tt ty te):=by
 have S:=hS.at (X:=X) hN hsc
 have hl:∀ C fp s H,(cxC X [x] ix scope C fp s H).env.scope.names.lookup x=some .local:=fun _ _ _ _=>lookup_relabel_local (S.own x (by simp))
 exact pe_dc S hc hi (fun C fp s H=>pg_name S.nd rfl (Or.inl (hl C fp s H)) (.inr (hl C fp s H))) ht hy he hs
theorem dc_list0 {K:PySem.W.Frag} {a:Addr} {its:List V} {xs:List Str} {ix:List Nat} {g:TG} {ty te:TE} {σ:St} {H1:Hp} {Q:VK} {acc:Addr} (hn:its.length < sizeLine) (Pv:Nat->List (Key × V)->St->Hp->Prop)
  (h0:Pv 0 [] (stC xs ix σ) (upd H1 acc (.dK []))) (hacc:∀ i ys τ H,Pv i ys τ H->H acc=some (.dK ys)/\ys.length <= i/\SqL K H a its)
  (hs:∀ i ys τ H x,its[i]?=some x->Pv i ys τ H->g x τ H fun τ2 H2=>ty τ2 H2 fun z H4=>te τ2 H4 fun y H5=>∃ k,z=kV k/\H5 acc=some (.dK ys)/\Pv (i + 1) (putK ys k y) τ2 (upd H5 acc (.dK (putK ys k y))))
  (hd:∀ ys τ H,Pv its.length ys τ H->Q (.ref acc) H):DCW (Itl K a) xs ix g tYes ty te σ H1 acc Q:=by
 refine ⟨fun i m ys τ H=>m=its.length - i/\i <= its.length/\Pv i ys τ H,⟨its.length,by simp,Nat.zero_le _,h0⟩,?_⟩
 rintro i m ys τ H ⟨rfl,hi,p⟩
 obtain ⟨a1,a2,a3⟩:=hacc i ys τ H p
 refine ⟨a1,by omega,?_⟩
 by_cases hlt:i < its.length
 ·refine .inr ⟨⟨its,its[i],a3,by simp [hlt]⟩,fun ys' τ' H'=>Pv (i + 1) ys' τ' H',fun ys' τ' H' p'=>⟨its.length - (i + 1),by omega,rfl,hlt,p'⟩,fun x H' y=>?_⟩
  obtain ⟨e,y⟩:=y
  subst e
  have ex:=y its a3
  have st:=hs i ys τ H' x ex p
  have e:(fun τ2 H2=>tYes τ2 H2 fun b H3=>if b=true then ty τ2 H3 fun z H4=>te τ2 H4 fun y H5=>∃ k,z=kV k/\H5 acc=some (.dK ys)/\Pv (i + 1) (putK ys k y) τ2 (upd H5 acc (.dK (putK ys k y))) else Pv (i + 1) ys τ2 H3) =
    fun τ2 H2=>ty τ2 H2 fun z H4=>te τ2 H4 fun y H5=>∃ k,z=kV k/\H5 acc=some (.dK ys)/\Pv (i + 1) (putK ys k y) τ2 (upd H5 acc (.dK (putK ys k y))):=by
   funext τ2 H2
   simp only [tYes,if_true]
  rw [e];exact st
 ·have ei:i=its.length:=by omega
  subst ei
  exact .inl ⟨⟨its,a3,Nat.le_refl _⟩,hd ys τ H p⟩
end L2
namespace L2
open PySem PySem.Spec PyProof.Rows
section
variable {X:Cx}
def Like (H:Hp):Nat->V->V->Prop
 | 0,x,y=>x=y/\(flatV x=true \/ ∃ a,x=.ref a)
 | n + 1,x,y=>(x=y/\(flatV x=true \/ ∃ a,x=.ref a)) \/ ∃ a b xs ys,x=.ref a/\y=.ref b/\((H a=some (.lst xs)/\H b=some (.lst ys)) \/ (H a=some (.tup xs)/\H b=some (.tup ys)))/\xs.length=ys.length /\
   ∀ (i:Nat) (u v:V),xs[i]?=some u->ys[i]?=some v->Like H n u v
theorem hu4 {A:Around} {k:Nat} (hr:Room k A):A.units + 4 < cLine:=Nat.lt_of_le_of_lt (Nat.add_le_add_left (by decide:4 <= 64) _) hr.units
theorem like0 {pins:List (Addr × Obj)} {σ:St} {H:Hp} {s:Shared} {A:Around} {x:V} {v u:Value} (rx:RelV x v) (ry:RelV x u) (h:flatV x=true \/ ∃ a,x=.ref a):SeqAt.EqAt A s v u true:=by
 rcases h with f | ⟨a,rfl⟩
 ·have:=eqAt_V (A:=A) (s:=s) rx ry f f
  rw [eqV_refl f] at this
  exact this
 ·cases rx;cases ry
  exact SeqAt.EqAt.same _
theorem like_items {xs ys:List V} {i1 i2:List Value} (r1:Vals xs i1) (r2:Vals ys i2) (hl:xs.length=ys.length) (j:Nat) (g1:j < i1.toArray.size) (g2:j < i2.toArray.size) :
  ∃ x y,xs[j]?=some x/\ys[j]?=some y/\RelV x i1.toArray[j]/\RelV y i2.toArray[j]:=by
 have l1:=r1.length
 have l2:=r2.length
 have g1':j < i1.length:=by simpa using g1
 have g2':j < i2.length:=by simpa using g2
 obtain ⟨u,eu,ru⟩:=r1.get (i:=j) (List.getElem?_eq_getElem (by omega:j < xs.length))
 obtain ⟨v,ev,rv⟩:=r2.get (i:=j) (List.getElem?_eq_getElem (by omega:j < ys.length))
 have eu':i1.toArray[j]=u:=by
  rw [List.getElem?_eq_getElem g1'] at eu
  simpa using Option.some.inj eu
 have ev':i2.toArray[j]=v:=by
  rw [List.getElem?_eq_getElem g2'] at ev
  simpa using Option.some.inj ev
 rw [eu',ev']
 exact ⟨_,_,List.getElem?_eq_getElem (by omega),List.getElem?_eq_getElem (by omega),ru,rv⟩
theorem like_at {pins:List (Addr × Obj)} {σ:St} {H:Hp} {s:Shared} (I:Inv X pins σ H s):∀ (n:Nat) {A:Around} {x y:V} {v u:Value},RelV x v->RelV y u->Like H n x y->A.units + n < cLine->SeqAt.EqAt A s v u true:=by
 intro n
 induction n with
 | zero=>
  intro A x y v u rx ry h _
  obtain ⟨rfl,h⟩:=h
  exact like0 (pins:=pins) (σ:=σ) (H:=H) rx ry h
 | succ n ih=>
  intro A x y v u rx ry h hu
  rcases h with ⟨rfl,h⟩ | ⟨a,b,xs,ys,rfl,rfl,h,hl,each⟩
  ·exact like0 (pins:=pins) (σ:=σ) (H:=H) rx ry h
  cases rx;cases ry
  by_cases e:a=b
  ·subst e;exact SeqAt.EqAt.same _
  have hu1:A.in1.units + n < cLine:=by
   have e:A.in1.units=A.units + 1:=rfl
   omega
  refine SeqAt.EqAt.of_refs e ?_
  have hu0:A.units < cLine:=by omega
  rcases h with ⟨ha,hb⟩ | ⟨ha,hb⟩
  ·obtain ⟨i1,r1,p1,_⟩:=I.list (.of ha)
   obtain ⟨i2,r2,p2,_⟩:=I.list (.of hb)
   have l1:=r1.length
   have l2:=r2.length
   have key:=SeqAt.RcAt.lists (A:=A) (e:=fun _=>true) p1.isList p2.isList (by rw [List.size_toArray,List.size_toArray,<- l1,<- l2,hl]) hu0 (fun j g1 g2=>by
    obtain ⟨x,y,ex,ey,rx,ry⟩:=like_items r1 r2 hl j g1 g2
    exact ih rx ry (each j x y ex ey) hu1)
   rw [show (List.range i1.toArray.size).all (fun _=>true)=true by simp] at key
   exact key
  ·obtain ⟨i1,r1,t1,_⟩:=I.tuple (.of ha)
   obtain ⟨i2,r2,t2,_⟩:=I.tuple (.of hb)
   have l1:=r1.length
   have l2:=r2.length
   have key:=SeqAt.RcAt.tuples (A:=A) (s:=s) (l:=a) (b:=b) (e:=fun _=>true) (show s.heap.IsTuple a i1.toArray from t1) (show s.heap.IsTuple b i2.toArray from t2) hu0 (fun j g1 g2=>by
    obtain ⟨x,y,ex,ey,rx,ry⟩:=like_items r1 r2 hl j g1 g2
    exact ih rx ry (each j x y ex ey) hu1)
   rw [show ((List.range (min i1.toArray.size i2.toArray.size)).all (fun _=>true) && i1.toArray.size == i2.toArray.size)=true by
    rw [List.size_toArray,List.size_toArray,<- l1,<- l2,hl];simp] at key
   exact key
theorem Like.str {H:Hp} {n:Nat} (z:Str):Like H n (.str z) (.str z):=by
 cases n with
 | zero=>exact ⟨rfl,.inl rfl⟩
 | succ n=>exact .inl ⟨rfl,.inl rfl⟩
theorem like_texts {H:Hp} {n:Nat} (zs:List Str):∀ (i:Nat) (u v:V),(zs.map V.str)[i]?=some u->(zs.map V.str)[i]?=some v->Like H n u v:=fun i u v e1 e2=>by
 rw [e1] at e2
 cases e2
 rw [List.getElem?_map] at e1
 cases h:zs[i]? with
 | none=>rw [h] at e1;cases e1
 | some z=>rw [h] at e1;cases e1;exact Like.str z
theorem call_lenD:CallR X (.builtin "len") (fun xs H Q=>∃ (p:Addr) (kvs:List (Key × V)),xs=[.ref p]/\H p=some (.dK kvs)/\Q (.int kvs.length) H):=by
 intro pins s σ H xs us Q I r h
 obtain ⟨p,kvs,rfl,hP,q⟩:=h
 obtain ⟨u,rfl,rx⟩:=vals1 r
 cases rx
 obtain ⟨hz,hS,vs,rv,m⟩:kvs.length <= sizeLine/\(p == sysModules)=false/\∃ vs,KV kvs vs/\s.heap.DictOf (mixKind X.prog X.w) p vs:=I.hok p _ hP
 have hlen:kvs.length=vs.length:=Paired.length rv
 have hl:=line63
 exact call_len_dict hS m (by omega) ⟨.int kvs.length,H,I.tok _,⟨_,by rw [hlen]⟩,q⟩
end
end L2
namespace K03
open PySem L2
def top (i:Nat):Stmt:=PySem.Challenge.pw_treeright_k03_what_is_no_tree.main.body.getD i (.Pass ⟨0,0,0,0⟩)
abbrev sName:Stmt:=top 18
abbrev sMixed:Stmt:=top 29
abbrev sDigits:Stmt:=top 30
abbrev sNext:Stmt:=top 31
def Src (H:Hp) (p:Addr):Prop:=∃ a b c:Int,H p=some (.lst [.int a,.int b,.int c])
def LowS (z:Str):Prop:=∀ c ∈ z.cps.toList,letterB c=true
theorem abc_low:∀ c ∈ abc.cps.toList,letterB c=true:=by decide +kernel
theorem low_app {x y:Str} (h1:LowS x) (h2:LowS y):LowS (x ++ y):=by
 intro c hc
 have e:(x ++ y).cps.toList=x.cps.toList ++ y.cps.toList:=by
  show (x.cps ++ y.cps).toList=_
  simp
 rw [e] at hc
 exact (List.mem_append.mp hc).elim (h1 c) (h2 c)
theorem low_one {ch:Nat} (h:ch ∈ abc.cps.toList):LowS ⟨#[ch]⟩:=fun c hc=>by
 have e:c=ch:=by simpa using hc
 rw [e];exact abc_low ch h
theorem low_slice {x:Str} (h:LowS x) (lo hi:Option Int):LowS (Txt.slice x lo hi):=by
 intro c hc
 unfold Txt.slice at hc
 split at hc
 ·exact h c hc
 ·simp only [List.mem_filterMap] at hc
  obtain ⟨i,_,e⟩:=hc
  exact h c (by
   rw [<- Array.getElem?_toList] at e
   exact List.mem_of_getElem? e)
theorem low_fold:∀ (zs:List Str) (acc:Array Nat),(∀ c ∈ acc.toList,letterB c=true)->(∀ z ∈ zs,LowS z)->∀ c ∈ (zs.foldl (fun acc p=>acc ++ (Str.ofString "").cps ++ p.cps) acc).toList,letterB c=true
 | [],acc,h,_=>h
 | z :: zs,acc,h,hz=>by
  rw [List.foldl_cons]
  refine low_fold zs _ (fun c hc=>?_) fun y hy=>hz y (List.mem_cons_of_mem _ hy)
  have hc':c ∈ acc.toList ++ (Str.ofString "").cps.toList ++ z.cps.toList:=by simpa using hc
  rcases List.mem_append.mp hc' with q | q
  ·rcases List.mem_append.mp q with q | q
   ·exact h c q
   ·exact absurd q (by show ¬ c ∈ ([]:List Nat);simp)
  ·exact hz z List.mem_cons_self c q
theorem low_join (zs:List Str) (h:∀ z ∈ zs,LowS z):LowS (Txt.join (Str.ofString "") zs):=by
 cases zs with
 | nil=>intro c hc;exact absurd hc (by show ¬ c ∈ ([]:List Nat);simp)
 | cons z zs=>
  show ∀ c ∈ ((zs.foldl (fun acc p=>acc ++ (Str.ofString "").cps ++ p.cps) z.cps)).toList,letterB c=true
  exact low_fold zs _ (h z List.mem_cons_self) fun y hy=>h y (List.mem_cons_of_mem _ hy)
theorem name_of {z:Str} (h:LowS z) (h1:1 <= z.length) (h2:z.length <= 8):nameS z=true:=by
 unfold nameS
 rw [decide_eq_true h1,decide_eq_true h2]
 simp only [Bool.true_and]
 exact List.all_eq_true.mpr h
section
variable {P:Program} {w:World} {K:PySem.W.Frag} {mg:Str->Option Value} {base:Heap} {C:Addr}
def spMixed:Sp:=fun vs H Q _=>∃ a k,vs=[.int a,.int k]/\∀ v:Int,0 <= v->v < 2147483629->Q (.int v) H
theorem scMixed:FnScope ["_law_cell","_law_k","_law_number"] ["_law_cell","_law_k"] (defScope sMixed):=⟨rfl,rfl,rfl,by decide +kernel,rfl,by decide +kernel,by decide +kernel⟩
theorem okMixed (G:FunG K mg "_law_mixed" sMixed ["_law_cell","_law_k"]):Cal P w K mg base CX0 1 "_law_mixed" ["_law_cell","_law_k"] spMixed:=by
 refine G.ok scMixed (fun vs H Q E h=>by obtain ⟨a,k,rfl,_⟩:=h;rfl) (fun f cdv A outer s H vs Q E hr h=>?_)
 obtain ⟨a,k,rfl,q⟩:=h
 refine ⟨_,pss_cons (ps_set (i:=2) scMixed.nd rfl (Or.inl rfl) (pe_op op_mod (pe_op op_mul (pe_op op_add (pe_op op_add (pe_op op_mod (pv 0) pe_int) (pe_op op_mul pe_int (pv 1))) pe_int) pe_int) pe_int))
  (pss_cons (ps_set (i:=2) scMixed.nd rfl (Or.inl rfl) (pe_op op_mod (pe_op op_mul (pv 2) (pe_op op_add (pe_op op_fdiv (pv 2) pe_int) pe_int)) pe_int))
  (pss_cons (ps_set (i:=2) scMixed.nd rfl (Or.inl rfl) (pe_op op_mod (pe_op op_mul (pv 2) (pe_op op_add (pe_op op_add (pe_op op_fdiv (pv 2) pe_int) pe_int) (pv 1))) pe_int))
  (pss_one (ps_ret (pe_op op_mod (pe_op op_mul (pv 2) (pe_op op_add (pe_op op_fdiv (pv 2) pe_int) pe_int)) pe_int))))),?_⟩
 simp [tSeq,tAsg,tRet,tOp,rI,rI0,tVar,tC,gName,L2.start,CMul,CDiv]
 refine ⟨by omega,by omega,by omega,q _ (by omega) (by omega)⟩
def spDigits:Sp:=fun vs H Q _=>∃ a,vs=[.int a]/\∀ (p:Addr) (b c d:Int),H p=none->Q (.ref p) (upd H p (.lst [.int b,.int c,.int d]))
theorem scDigits:FnScope ["_law_cell"] ["_law_cell"] (defScope sDigits):=⟨rfl,rfl,rfl,by decide +kernel,rfl,by decide +kernel,by decide +kernel⟩
theorem okDigits (G:FunG K mg "_law_digits" sDigits ["_law_cell"]):Cal P w K mg base CX0 1 "_law_digits" ["_law_cell"] spDigits:=by
 refine G.ok scDigits (fun vs H Q E h=>by obtain ⟨a,rfl,_⟩:=h;rfl) (fun f cdv A outer s H vs Q E hr h=>?_)
 obtain ⟨a,rfl,q⟩:=h
 refine ⟨_,pss_one (ps_ret (pe_lst (pa_cons (pe_op op_mul (pe_op op_fdiv (pv 0) pe_int) (pe_op op_sub pe_int (pe_op op_mod (pv 0) pe_int))) (pa_cons (pv 0) (pa_cons pe_int pa_nil))))),?_⟩
 simp [tSeq,tAsg,tRet,tOp,rI,rI0,tVar,tC,gName,L2.start,CMul,CDiv,tLst,tCons,tNil]
 refine ⟨by omega,small1000 (by decide) |> Nat.le_of_lt,fun p hp=>q p _ _ _ hp⟩
def spNext:Sp:=fun vs H Q _=>∃ (p:Addr) (a b c m:Int),vs=[.ref p,.int m]/\H p=some (.lst [.int a,.int b,.int c])/\0 < m/\m < 4611686018427387904 /\
 ∀ v a' c':Int,0 <= v->v < m->Q (.int v) (upd H p (.lst [.int a',.int b,.int c']))
theorem scNext:FnScope ["_law_source","_law_many","_law_found"] ["_law_source","_law_many"] (defScope sNext):=⟨rfl,rfl,rfl,by decide +kernel,rfl,by decide +kernel,by decide +kernel⟩
theorem okNext (G:FunG K mg "_law_next" sNext ["_law_source","_law_many"]) (CM:Cal P w K mg base CX0 1 "_law_mixed" ["_law_cell","_law_k"] spMixed):Cal P w K mg base CX0 2 "_law_next" ["_law_source","_law_many"] spNext:=by
 refine G.ok scNext (fun vs H Q E h=>by obtain ⟨p,a,b,c,m,rfl,_⟩:=h;rfl) (fun f cdv A outer s H vs Q E hr h=>?_)
 obtain ⟨p,a,b,c,m,rfl,hp,m0,m1,q⟩:=h
 refine ⟨_,pss_cons (ps_if (pt_cmpR op_gt (pe_ix ix_lstH (pv 0) pe_int (fun _ _=>rfl)) pe_int (nomark _))
   (pss_cons (ps_set (i:=2) scNext.nd rfl (Or.inl rfl) (pe_op op_mod (pe_ix ix_lstH (pv 0) pe_int (fun _ _=>rfl)) (pv 1)))
   (pss_cons (ps_asg (pe_op op_fdivB (pe_ix ix_lstH (pv 0) pe_int (fun _ _=>rfl)) (pv 1)) (pg_sub (pv 0) pe_int set_list))
   (pss_one (ps_ret (pv 2))))) pss_nil)
  (pss_cons (ps_asg (pe_op op_add (pe_ix ix_lstH (pv 0) pe_int (fun _ _=>rfl)) pe_int) (pg_sub (pv 0) pe_int set_list))
  (pss_one (ps_ret (pe_op op_mod (pe_cal CM hr (pa_cons (pe_ix ix_lstH (pv 0) pe_int (fun _ _=>rfl)) (pa_cons (pe_ix ix_lstH (pv 0) pe_int (fun _ _=>rfl)) pa_nil))) (pv 1))))),?_⟩
 simp [tSeq,tAsg,tRet,tOp,rI,rI0,tVar,tC,gName,L2.start,CMul,CDiv,tLst,tCons,tNil,tIfS,tTest,tNext,gSub,rIxH,rSetL,tCall,spMixed,hp,atI,ixN,upd_same,upd_upd]
 refine ite2 (fun h1=>⟨m0,⟨m0,m1⟩,q _ _ _ (Int.emod_nonneg _ (by omega)) (Int.emod_lt_of_pos _ m0)⟩) (fun h1 v v0 v1=>⟨m0,q _ _ _ (Int.emod_nonneg _ (by omega)) (Int.emod_lt_of_pos _ m0)⟩)
def GoodN (z:Str):Prop:=nameS z=true/\z.length <= 8
def spName (K:PySem.W.Frag):Sp:=fun vs H Q _=>∃ (x:V) (T:String),vs=[x]/\PlainT K H x T/\(∀ z,x=.str z->z.length <= 1000)/\∀ H',Keep [] H H'->Q (.bl (nameV x)) H'
theorem scName:FnScope ["thing"] ["thing"] (defScope sName):=⟨rfl,rfl,rfl,by decide +kernel,rfl,by decide +kernel,by decide +kernel⟩
theorem okName (G:FunG K mg "is_name" sName ["thing"]) (bI:Blt mg "isinstance") (bS:Blt mg "str") (bL:Blt mg "len") (bA:Blt mg "all") (gL:Glo mg "LETTERS" (.str abc)) (g8:Glo mg "LONGEST_NAME" (.int 8)) :
  Cal P w K mg base CX0 1 "is_name" ["thing"] (spName K):=by
 refine G.ok scName (fun vs H Q E h=>by obtain ⟨x,T,rfl,_⟩:=h;rfl) (fun f cdv A outer s H vs Q E hr h=>?_)
 obtain ⟨x,T,rfl,pt,hz,q⟩:=h
 refine ⟨_,pss_cons (ps_if (pt_not (pt_val (pe_blt call_isinst bI bo_isinstance (pa_cons (pv 0) (pa_cons (pe_ty bS bo_str) pa_nil))))) (pss_one (ps_ret pe_bl)) pss_nil)
  (pss_one (ps_ret (pe_and (pe_chain op_le op_le pe_int (pe_blt call_len bL bo_len (pa_cons (pv 0) pa_nil)) (pe_glo g8))
   (pe_one (pe_blt (call_all rfl) bA bo_all (pa_cons (pe_lc1 (N:=["thing"]) (sc:=defScope sName) (ix:=[]) (by decide +kernel) (pi_str (pv 0)) (fun _ _ _ _=>pts_nil)
    (fun C fp s H=>pe_cmpR op_in_str (pv 0) (pe_glo gL) (by with_unfolding_all rfl))) pa_nil)))))),?_⟩
 refine ⟨_,rfl,_,_,_,_,rfl,pt.ty,pt.kit.1,_,rfl,?_⟩
 cases pt with
 | str z=>
  have hz:=hz z rfl
  refine iteF ?_
  refine ⟨_,rfl,_,z.length,rfl,⟨by rw [sizeLine_eq];omega,rfl⟩,_,_,rfl,rfl,_,rfl,?_⟩
  refine ite2 (fun h1=>?_) (fun h1=>?_)
  ·refine ⟨_,_,rfl,rfl,_,rfl,?_⟩
   refine ite2 (fun h2=>?_) (fun h2=>?_)
   ·refine ⟨_,rfl,z,rfl,fun acc ha=>?_⟩
    refine lc_str0 (by rw [sizeLine_eq];show z.length < _;omega) (fun i ys τ H2=>∃ (k:Option V),τ=[k]/\ys=(z.cps.toList.take i).map (fun c=>V.bl (letterB c))/\i <= z.cps.size/\Keep [acc] H H2/\H2 acc=some (.lst ys)) ?_ ?_ ?_ ?_
    ·exact ⟨_,rfl,rfl,Nat.zero_le _,Keep.at (by simp),upd_same⟩
    ·rintro i ys τ H2 ⟨k,rfl,rfl,hi,kp,h3⟩
     exact ⟨h3,by simp;omega⟩
    ·rintro i ys τ H2 hi ⟨k,rfl,rfl,_,kp,h3⟩
     refine ⟨_,rfl,_,_,rfl,rfl,h3,_,rfl,?_,hi,kp.trans (Keep.at (by simp)),upd_same⟩
     rw [List.take_add_one,List.map_append]
     congr 1
     have e:z.cps.toList[i]?=some (z.cps.getD i 0):=by
      rw [Array.getElem?_toList,Array.getD_eq_getD_getElem?,Array.getElem?_eq_getElem hi];rfl
     rw [e];rfl
    ·rintro ys τ H2 ⟨k,rfl,rfl,_,kp,h3⟩
     refine ⟨acc,z.cps.toList.map letterB,rfl,.of ?_,?_⟩
     ·rw [h3,List.take_of_length_le (by simp),List.map_map];rfl
     ·rw [all_map_id]
      have e:nameV (.str z)=z.cps.toList.all letterB:=by
       show (decide (1 <= z.length) && decide (z.length <= 8) && _)=_
       have e1:1 <= z.length:=by have:=of_decide_eq_true h1;omega
       have e2:z.length <= 8:=by have:=of_decide_eq_true h2;omega
       rw [decide_eq_true e1,decide_eq_true e2];rfl
      rw [<- e]
      exact q _ (kp.drop ha)
   ·have e:nameV (.str z)=false:=by
     show (decide (1 <= z.length) && decide (z.length <= 8) && _)=_
     have e2:¬ z.length <= 8:=fun z'=>h2 (decide_eq_true (by omega))
     rw [decide_eq_false e2];simp
    rw [<- e]
    exact q _ (Keep.refl _)
  ·refine ⟨_,rfl,iteF ?_⟩
   have e:nameV (.str z)=false:=by
    show (decide (1 <= z.length) && decide (z.length <= 8) && _)=_
    have e2:¬ 1 <= z.length:=fun z'=>h1 (decide_eq_true (by omega))
    rw [decide_eq_false e2];simp
   rw [<- e]
   exact q _ (Keep.refl _)
 | _=>exact iteT (q H (Keep.refl _))
theorem stem_turns {xs:List Str} {te:TE} {n:Nat} {σ:St} {H1:Hp} {Q:VK} {acc p:Addr} {ix:List Nat} {rest:List (Option V)} (hn:n <= 100) (hs:Src H1 p) (ha:H1 acc=none)
  (hσ:stC xs ix σ=none :: rest)
  (ht:∀ (k:V) (H2:Hp) (R:VK),Src H2 p->(∀ (ch:Nat) (H3:Hp),ch ∈ abc.cps.toList->Keep [p] H2 H3->Src H3 p->R (.str ⟨#[ch]⟩) H3)->te (some k :: rest) H2 R)
  (q:∀ (zs:List Str) (H2:Hp),zs.length=n->(∀ z ∈ zs,LowS z/\z.length=1)->Keep [p] H1 H2->Src H2 p->H2 acc=some (.lst (zs.map V.str))->Q (.ref acc) H2) :
  LCW (Itr 0 n) xs ix (gName 0) tYes te σ H1 acc Q:=by
 have pa:acc ≠ p:=by
  obtain ⟨a,b,c,h⟩:=hs
  exact Ne.symm (ne_of_none h ha)
 refine lc_range0 (by rw [sizeLine_eq];omega) (fun i ys τ H2=>∃ (zs:List Str) (k:Option V),τ=k :: rest/\ys=zs.map V.str/\zs.length=i/\(∀ z ∈ zs,LowS z/\z.length=1)/\Keep [acc,p] H1 H2/\Src H2 p/\H2 acc=some (.lst ys)) ?_ ?_ ?_ ?_
 ·obtain ⟨a,b,c,h⟩:=hs
  exact ⟨[],none,hσ,rfl,rfl,(fun z hz=>by cases hz),Keep.at (by simp),⟨a,b,c,by rw [upd_ne (Ne.symm pa)];exact h⟩,upd_same⟩
 ·rintro i ys τ H2 ⟨zs,k,rfl,rfl,hl,_,_,_,h2⟩
  exact ⟨h2,by rw [List.length_map];omega⟩
 ·rintro i ys τ H2 hi ⟨zs,k,rfl,rfl,hl,h1,kp,hs2,h2⟩
  refine ht _ H2 _ hs2 fun ch H3 hc k3 hz67=>?_
  obtain ⟨a,b,c,hs3⟩:=hz67
  refine ⟨k3 _ _ (by simp [pa]) h2,zs ++ [⟨#[ch]⟩],_,rfl,by simp,by simp [hl],?_,(kp.trans (k3.mono (by simp))).trans (Keep.at (by simp)),⟨a,b,c,by rw [upd_ne (Ne.symm pa)];exact hs3⟩,upd_same⟩
  intro z hz
  rcases List.mem_append.mp hz with z1 | z1
  ·exact h1 z z1
  ·rw [List.mem_singleton.mp z1];exact ⟨low_one hc,rfl⟩
 ·rintro ys τ H2 ⟨zs,k,rfl,rfl,hl,h1,kp,hs2,h2⟩
  exact q zs H2 hl h1 (kp.drop ha) hs2 h2
theorem sum_low (zs:List Str) (h:∀ z ∈ zs,LowS z/\z.length=1):(zs.map (·.length)).sum=zs.length:=sum_ones zs fun z hz=>(h z hz).2
end
abbrev sOneOf:Stmt:=top 19
abbrev sAreN:Stmt:=top 20
abbrev sUnl:Stmt:=top 21
abbrev sAreH:Stmt:=top 22
abbrev sTie:Stmt:=top 23
abbrev sAreT:Stmt:=top 24
section
variable {P:Program} {w:World} {K:PySem.W.Frag} {mg:Str->Option Value} {base:Heap} {C:Addr}
theorem scOneOf:FnScope ["thing","houses"] ["thing","houses"] (defScope sOneOf):=⟨rfl,rfl,rfl,by decide +kernel,rfl,by decide +kernel,by decide +kernel⟩
theorem in_strs {z:Str} {zs:List Str} (h:z ∈ zs):inV (.str z) (zs.map V.str)=true:=by
 unfold inV
 rw [List.any_map,List.any_eq_true]
 exact ⟨z,h,by simp [eqV]⟩
theorem flat_strs (zs:List Str):(zs.map V.str).all flatV=true:=by
 rw [List.all_map,List.all_eq_true];exact fun _ _=>rfl
theorem scAreN:FnScope ["thing"] ["thing"] (defScope sAreN):=⟨rfl,rfl,rfl,by decide +kernel,rfl,by decide +kernel,by decide +kernel⟩
theorem scUnl:FnScope ["names"] ["names"] (defScope sUnl):=⟨rfl,rfl,rfl,by decide +kernel,rfl,by decide +kernel,by decide +kernel⟩
theorem scAreH:FnScope ["thing"] ["thing"] (defScope sAreH):=⟨rfl,rfl,rfl,by decide +kernel,rfl,by decide +kernel,by decide +kernel⟩
theorem scTie:FnScope ["thing","houses","one","other"] ["thing","houses"] (defScope sTie):=⟨rfl,rfl,rfl,by decide +kernel,rfl,by decide +kernel,by decide +kernel⟩
theorem scAreT:FnScope ["thing","houses"] ["thing","houses"] (defScope sAreT):=⟨rfl,rfl,rfl,by decide +kernel,rfl,by decide +kernel,by decide +kernel⟩
def TieOk (zs:List Str) (p:Str × Str):Prop:=p.1 ∈ zs/\p.2 ∈ zs/\p.1 ≠ p.2
end
def dz (zs:List Str) (f:Str->V):List (Key × V):=zs.map fun z=>(Sum.inr z,f z)
theorem val_dz {zs:List Str} {f:Str->V} {z:Str} (h:z ∈ zs):valV (dz zs f) (Sum.inr z)=some (f z):=by
 unfold dz
 induction zs with
 | nil=>cases h
 | cons y zs ih=>
  rw [List.map_cons]
  by_cases e:y=z
  ·subst e;exact valV_pos rfl
  ·have hz:z ∈ zs:=by rcases List.mem_cons.mp h with q | q;exact absurd q.symm e;exact q
   rw [valV_neg (by simpa using e)]
   exact ih hz
theorem val_dz_no {zs:List Str} {f:Str->V} {z:Str} (h:z ∉ zs):valV (dz zs f) (Sum.inr z)=none:=by
 unfold dz
 induction zs with
 | nil=>rfl
 | cons y zs ih=>
  have e:y ≠ z:=fun e=>h (by simp [e])
  rw [List.map_cons,valV_neg (by simpa using e)]
  exact ih fun q=>h (List.mem_cons_of_mem _ q)
theorem put_dz {zs:List Str} {f:Str->V} {z:Str} {v:V} (h:z ∉ zs):putK (dz zs f) (Sum.inr z) v=dz (zs ++ [z]) (fun y=>if y=z then v else f y):=by
 have no:((dz zs f).any fun kv=>decide (kv.1=Sum.inr z))=false:=by
  unfold dz
  rw [List.any_map,List.any_eq_false]
  intro y hy
  simp only [Function.comp]
  simp
  rintro rfl;exact h hy
 unfold putK
 rw [no,if_neg (by simp)]
 unfold dz
 rw [List.map_append]
 congr 1
 ·refine List.map_congr_left fun y hy=>?_
  have e:y ≠ z:=fun e=>h (e ▸ hy)
  show _=(Sum.inr y,if y=z then v else f y)
  rw [if_neg e]
 ·simp
theorem dz_congr {zs:List Str} {f g:Str->V} (h:∀ z ∈ zs,f z=g z):dz zs f=dz zs g:=List.map_congr_left fun z hz=>by rw [h z hz]
def rawN (ps:List (Str × Str)) (z:Str):List Str:=ps.flatMap fun p=>if p.1=z then [p.2] else if p.2=z then [p.1] else []
theorem rawN_snoc (ps:List (Str × Str)) (p:Str × Str) (z:Str):rawN (ps ++ [p]) z=rawN ps z ++ (if p.1=z then [p.2] else if p.2=z then [p.1] else []):=by
 unfold rawN;rw [List.flatMap_append];simp
theorem rawN_len (ps:List (Str × Str)) (z:Str):(rawN ps z).length <= ps.length:=by
 induction ps with
 | nil=>exact Nat.le_refl _
 | cons p ps ih=>
  have e:rawN (p :: ps) z=(if p.1=z then [p.2] else if p.2=z then [p.1] else []) ++ rawN ps z:=by unfold rawN;rw [List.flatMap_cons]
  rw [e,List.length_append,List.length_cons]
  have:(if p.1=z then [p.2] else if p.2=z then [p.1] else []:List Str).length <= 1:=by split <;> (try split) <;> simp
  omega
structure NearAt (H:Hp) (nd:Addr) (zs:List Str) (ps:List (Str × Str)) (L:Str->Addr) (N:Str->List Str):Prop where
 d:H nd=some (.dK (dz zs fun z=>.ref (L z)))
 l:∀ z ∈ zs,H (L z)=some (.lst ((N z).map V.str))
 p:∀ z ∈ zs,(N z).Perm (rawN ps z)
 s:∀ z ∈ zs,Asc ltS (N z)
abbrev sTied:Stmt:=top 25
section
variable {P:Program} {w:World} {K:PySem.W.Frag} {mg:Str->Option Value} {base:Heap} {C:Addr}
theorem scTied:FnScope ["houses","ties","near","one","other"] ["houses","ties"] (defScope sTied):=⟨rfl,rfl,rfl,by decide +kernel,rfl,by decide +kernel,by decide +kernel⟩
def spTied:Sp:=fun vs H Q _=>∃ (a b:Addr) (ps:List (Str × Str)) (zs:List Str),vs=[.ref a,.ref b]/\H a=some (.lst (zs.map V.str))/\Rows H b (ps.map pairV)/\zs.Nodup/\(∀ p ∈ ps,TieOk zs p)/\ps.length < 60/\zs.length < 60 /\
 ∀ (nd:Addr) (L:Str->Addr) (N:Str->List Str) (H':Hp),H nd=none->(∀ z ∈ zs,H (L z)=none)->NearAt H' nd zs ps L N->Keep [] H H'->Q (.ref nd) H'
theorem okTied (G:FunG K mg "tied_to_each" sTied ["houses","ties"]) (b_sorted:Blt mg "sorted"):Cal P w K mg base CX0 1 "tied_to_each" ["houses","ties"] spTied:=by
 refine G.ok scTied (fun vs H Q E h=>by obtain ⟨a,b,ps,zs,rfl,_⟩:=h;rfl) (fun f cdv A outer s H vs Q E hr h=>?_)
 obtain ⟨a,b,ps,zs,rfl,ha,⟨qs,hb,hq⟩,nd0,tz,lp,lz,q⟩:=h
 have hu:=hu_of hr
 have lq:=paired_len hq
 rw [List.length_map] at lq
 refine ⟨_,(pss_cons (ps_set (i:=2) scTied.nd rfl (Or.inr rfl) (pe_dc1 (N:=["houses","ties","near","one","other"]) (sc:=defScope sTied) (ix:=[]) (by decide +kernel) (pi_list (pv 0)) (fun _ _ _ _=>pts_nil) (fun _ _ _ _=>(pv 0)) (fun _ _ _ _=>(pe_lst pa_nil))))
   (pss_cons (ps_for PassesOwn.never rfl (pi_list (pv 1)) (pg_tup rfl (pgs_cons (pg_name (i:=3) scTied.nd rfl (Or.inl rfl)) (pgs_cons (pg_name (i:=4) scTied.nd rfl (Or.inl rfl)) pgs_nil))) (pss_cons (ps_expr (pe_bm PySem.F.plainAttrs_list PySem.F.slot_list_append PySem.F.type_list_append mt_append (pe_dget hu (pv 2) (pv 3) (fun _ _=>rfl)) (pa_cons (pv 4) pa_nil)))
   (pss_one (ps_expr (pe_bm PySem.F.plainAttrs_list PySem.F.slot_list_append PySem.F.type_list_append mt_append (pe_dget hu (pv 2) (pv 4) (fun _ _=>rfl)) (pa_cons (pv 3) pa_nil))))))
   (pss_one (ps_ret (pe_dc1 (N:=["houses","ties","near","one","other"]) (sc:=defScope sTied) (ix:=[2]) (by decide +kernel) (pi_list (pv 0)) (fun _ _ _ _=>pts_nil) (fun _ _ _ _=>(pv 0)) (fun _ _ _ _=>(pe_blt call_sortedS b_sorted bo_sorted (pa_cons (pe_dget hu (pv 1) (pv 0) (fun _ _=>rfl)) pa_nil)))))))),?_⟩
 refine ⟨_,rfl,a,rfl,⟨_,.of ha⟩,fun d0 hd0=>?_⟩
 have ad:a ≠ d0:=ne_of_none ha hd0
 refine dc_list0 (K:=K) (a:=a) (its:=zs.map V.str) (by rw [List.length_map,sizeLine_eq];omega) (fun i ys τ H1=>i <= zs.length/\∃ (L:Str->Addr) (k:Option V),τ=[k]/\ys=dz (zs.take i) (fun z=>.ref (L z))/\(∀ z ∈ zs.take i,H1 (L z)=some (.lst [])/\H (L z)=none/\L z ≠ d0) /\
  (∀ y ∈ zs.take i,∀ z ∈ zs.take i,L y=L z->y=z)/\Keep [d0] H H1/\H1 d0=some (.dK ys)) ?_ ?_ ?_ ?_
 ·exact ⟨Nat.zero_le _,fun _=>0,_,rfl,rfl,(fun z hz=>by cases hz),(fun y hy=>by cases hy),Keep.at (by simp),upd_same⟩
 ·rintro i ys τ H1 ⟨hi,L,k,rfl,rfl,_,_,kp,h1⟩
  exact ⟨h1,by unfold dz;rw [List.length_map,List.length_take];omega,.of (kp _ _ (by simp [ad]) ha)⟩
 ·rintro i ys τ H1 x hx ⟨hi,L,k,rfl,rfl,hl,inj,kp,h1⟩
  rw [List.getElem?_map] at hx
  cases ez:zs[i]? with
  | none=>rw [ez] at hx;cases hx
  | some z=>
  rw [ez] at hx
  have ex:V.str z=x:=Option.some.inj hx
  subst ex
  have il:i < zs.length:=(List.getElem?_eq_some_iff.mp ez).1
  have tk:zs.take (i + 1)=zs.take i ++ [z]:=by rw [List.take_add_one,ez];rfl
  have nin:z ∉ zs.take i:=fun hm=>by
   have:=nd0.sublist (List.take_sublist (i + 1) zs)
   rw [tk] at this
   exact (List.nodup_append.mp this).2.2 z hm z (by simp) rfl
  refine ⟨_,rfl,Nat.zero_le _,fun l hln=>⟨Sum.inr z,rfl,?_,?_⟩⟩
  ·exact (Keep.new (S:=[]) hln) _ _ (by simp) h1
  have ld:l ≠ d0:=Ne.symm (ne_of_none h1 hln)
  rw [put_dz nin]
  refine ⟨il,fun y=>if y=z then l else L y,_,rfl,?_,?_,?_,(kp.trans (Keep.new hln)).trans (Keep.at (by simp)),upd_same⟩
  ·rw [tk]
   refine dz_congr fun y _=>?_
   dsimp only
   by_cases e:y=z
   ·rw [if_pos e,if_pos e]
   ·rw [if_neg e,if_neg e]
  ·intro y hy
   rw [tk] at hy
   dsimp only
   by_cases e:y=z
   ·rw [if_pos e]
    exact ⟨by rw [upd_ne ld,upd_same],kp.none (by simp [ld]) hln,ld⟩
   ·rw [if_neg e]
    have hy':y ∈ zs.take i:=by rcases List.mem_append.mp hy with q | q;exact q;exact absurd (List.mem_singleton.mp q) e
    obtain ⟨g1,g2,g3⟩:=hl y hy'
    exact ⟨by rw [upd_ne g3,upd_ne (ne_of_none g1 hln)];exact g1,g2,g3⟩
  ·intro x hx y hy exy
   rw [tk] at hx hy
   dsimp only at exy
   have alt:∀ u ∈ zs.take i ++ [z],u=z \/ u ∈ zs.take i:=fun u hu=>by
    rcases List.mem_append.mp hu with q | q
    ·exact .inr q
    ·exact .inl (List.mem_singleton.mp q)
   rcases alt x hx with rfl | hx' <;> rcases alt y hy with rfl | hy'
   ·rfl
   ·have ny:y ≠ x:=fun e=>nin (e ▸ hy')
    rw [if_pos rfl,if_neg ny] at exy
    rw [exy] at hln;rw [(hl y hy').1] at hln;cases hln
   ·have nx:x ≠ y:=fun e=>nin (e ▸ hx')
    rw [if_neg nx,if_pos rfl] at exy
    rw [<- exy] at hln;rw [(hl x hx').1] at hln;cases hln
   ·have nx:x ≠ z:=fun e=>nin (e ▸ hx')
    have ny:y ≠ z:=fun e=>nin (e ▸ hy')
    rw [if_neg nx,if_neg ny] at exy
    exact inj x hx' y hy' exy
 rintro ys τ H1 ⟨_,L,kk,rfl,rfl,hl,inj,kp,h1⟩
 rw [List.length_map,List.take_length] at hl inj h1
 have k1:Keep [] H H1:=kp.drop hd0
 have ha1:=k1 _ _ (by simp) ha
 have hb1:=k1 _ _ (by simp) hb
 have out:∀ {u:Addr} {o:HO},H u=some o->u ∉ zs.map L:=fun {u o} hu hm=>by
  obtain ⟨z,hz,rfl⟩:=List.mem_map.mp hm
  rw [(hl z hz).2.1] at hu;cases hu
 have dout:d0 ∉ zs.map L:=fun hm=>by
  obtain ⟨z,hz,e⟩:=List.mem_map.mp hm
  exact (hl z hz).2.2 e
 refine ⟨_,rfl,b,rfl,⟨_,.of hb1⟩,for_list (K:=K) (a:=b) (xs:=qs.map V.ref) (fun i σ H2=>i <= ps.length/\∃ (v3 v4:Option V),σ=[some (.ref a),some (.ref b),some (.ref d0),v3,v4]/\(∀ z ∈ zs,H2 (L z)=some (.lst ((rawN (ps.take i) z).map V.str)))/\Keep (zs.map L) H1 H2)
  ⟨Nat.zero_le _,_,_,rfl,(fun z hz=>(hl z hz).1),Keep.refl _⟩ (fun i σ H2 _ ⟨_,_,_,_,_,k2⟩=>.of (k2 _ _ (out hb) hb1)) ?_ ?_⟩
 ·rintro i y σ H2 hi ⟨hip,v3,v4,rfl,hn,k2⟩
  rw [List.getElem?_map] at hi
  cases et:qs[i]? with
  | none=>rw [et] at hi;cases hi
  | some t=>
  rw [et] at hi
  have ex:V.ref t=y:=Option.some.inj hi
  subst ex
  obtain ⟨r,er,ht⟩:=paired_get hq i t et
  rw [List.getElem?_map] at er
  cases ep:ps[i]? with
  | none=>rw [ep] at er;cases er
  | some p=>
  rw [ep] at er
  have er':pairV p=r:=Option.some.inj er
  subst er'
  obtain ⟨p1,p2⟩:=p
  obtain ⟨m1,m2,ne⟩:=tz _ (List.mem_of_getElem? ep)
  dsimp only at m1 m2 ne
  have il:i < ps.length:=(List.getElem?_eq_some_iff.mp ep).1
  have ht2:H2 t=some (.tup [.str p1,.str p2]):=k2 _ _ (out ht) (k1 _ _ (by simp) ht)
  have tk:ps.take (i + 1)=ps.take i ++ [(p1,p2)]:=by rw [List.take_add_one,ep];rfl
  have hd2:=k2 _ _ dout h1
  have len:∀ z,((rawN (ps.take i) z).map V.str).length < sizeLine:=fun z=>by
   have:=rawN_len (ps.take i) z
   rw [List.length_map,sizeLine_eq];rw [List.length_take] at this;omega
  have l12:L p1 ≠ L p2:=fun e=>ne (inj p1 m1 p2 m2 e)
  refine ⟨t,_,rfl,.of ht2,rfl,_,_,rfl,_,_,rfl,rfl,?_⟩
  refine ⟨_,rfl,_,rfl,d0,_,rfl,by have z:=DGet.k (k:=Sum.inr p1) hd2;rw [val_dz m1] at z;exact z,(show tyV _ "list" (.ref (L p1)) _ from Or.inl ⟨rfl,_,.of (hn p1 m1)⟩),_,rfl,L p1,_,_,rfl,rfl,hn p1 m1,len p1,?_⟩
  have hd3:upd H2 (L p1) (.lst ((rawN (ps.take i) p1).map V.str ++ [.str p2])) d0=some (.dK (dz zs fun z=>.ref (L z))):=by
   rw [upd_ne (hl p1 m1).2.2.symm];exact hd2
  have hn3:upd H2 (L p1) (.lst ((rawN (ps.take i) p1).map V.str ++ [.str p2])) (L p2)=some (.lst ((rawN (ps.take i) p2).map V.str)):=by
   rw [upd_ne l12.symm];exact hn p2 m2
  refine ⟨_,rfl,_,rfl,d0,_,rfl,by have z:=DGet.k (k:=Sum.inr p2) hd3;rw [val_dz m2] at z;exact z,(show tyV _ "list" (.ref (L p2)) _ from Or.inl ⟨rfl,_,.of hn3⟩),_,rfl,L p2,_,_,rfl,rfl,hn3,len p2,?_⟩
  refine ⟨il,_,_,rfl,fun z hz=>?_,k2.trans ((Keep.at (List.mem_map.mpr ⟨p1,m1,rfl⟩)).trans (Keep.at (List.mem_map.mpr ⟨p2,m2,rfl⟩)))⟩
  rw [tk,rawN_snoc]
  dsimp only
  by_cases e2:p2=z
  ·subst e2
   rw [upd_same,if_neg ne,if_pos rfl,List.map_append];rfl
  ·have n2:L z ≠ L p2:=fun e=>e2 (inj z hz p2 m2 e).symm
   rw [upd_ne n2]
   by_cases e1:p1=z
   ·subst e1
    rw [upd_same,if_pos rfl,List.map_append];rfl
   ·have n1:L z ≠ L p1:=fun e=>e1 (inj z hz p1 m1 e).symm
    rw [upd_ne n1,if_neg e1,if_neg e2,List.append_nil]
    exact hn z hz
 rintro σ H2 ⟨_,v3,v4,rfl,hn,k2⟩
 rw [List.length_map,lq,List.take_length] at hn
 have ha2:=k2 _ _ (out ha) ha1
 have hd2:=k2 _ _ dout h1
 have k02:Keep [] H H2:=k1.under k2 (fun u hm=>by
  obtain ⟨z,hz,rfl⟩:=List.mem_map.mp hm
  exact (hl z hz).2.1)
 refine ⟨_,rfl,a,rfl,⟨_,.of ha2⟩,fun nd hnd=>?_⟩
 have an:a ≠ nd:=ne_of_none ha2 hnd
 have dn:d0 ≠ nd:=ne_of_none hd2 hnd
 refine dc_list0 (K:=K) (a:=a) (its:=zs.map V.str) (by rw [List.length_map,sizeLine_eq];omega) (fun i ys τ H3=>i <= zs.length/\∃ (M:Str->Addr) (N:Str->List Str) (k:Option V),τ=[k,some (.ref d0)]/\ys=dz (zs.take i) (fun z=>.ref (M z))/\(∀ z ∈ zs.take i,H3 (M z)=some (.lst ((N z).map V.str))/\H2 (M z)=none/\M z ≠ nd/\(N z).Perm (rawN ps z)/\Asc ltS (N z)) /\
  Keep [nd] H2 H3/\H3 nd=some (.dK ys)) ?_ ?_ ?_ ?_
 ·exact ⟨Nat.zero_le _,fun _=>0,fun _=>[],_,rfl,rfl,(fun z hz=>by cases hz),Keep.at (by simp),upd_same⟩
 ·rintro i ys τ H3 ⟨hi,M,N,k,rfl,rfl,_,kp3,h3⟩
  exact ⟨h3,by unfold dz;rw [List.length_map,List.length_take];omega,.of (kp3 _ _ (by simp [an]) ha2)⟩
 ·rintro i ys τ H3 x hx ⟨hi,M,N,k,rfl,rfl,hm,kp3,h3⟩
  rw [List.getElem?_map] at hx
  cases ez:zs[i]? with
  | none=>rw [ez] at hx;cases hx
  | some z=>
  rw [ez] at hx
  have ex:V.str z=x:=Option.some.inj hx
  subst ex
  have il:i < zs.length:=(List.getElem?_eq_some_iff.mp ez).1
  have hz:z ∈ zs:=List.mem_of_getElem? ez
  have tk:zs.take (i + 1)=zs.take i ++ [z]:=by rw [List.take_add_one,ez];rfl
  have nin:z ∉ zs.take i:=fun hm=>by
   have:=nd0.sublist (List.take_sublist (i + 1) zs)
   rw [tk] at this
   exact (List.nodup_append.mp this).2.2 z hm z (by simp) rfl
  have hd3:=kp3 _ _ (by simp [dn]) hd2
  have lzn:L z ≠ nd:=ne_of_none (hn z hz) hnd
  have hl3:=kp3 _ _ (by simp [lzn]) (hn z hz)
  refine ⟨_,rfl,_,rfl,_,rfl,d0,_,rfl,by have y:=DGet.k (k:=Sum.inr z) hd3;rw [val_dz hz] at y;exact y,L z,rawN ps z,rfl,hl3,by have:=rawN_len ps z;omega,fun l ys' hln hp hs=>⟨Sum.inr z,rfl,?_,?_⟩⟩
  ·exact (Keep.new (S:=[]) hln) _ _ (by simp) h3
  have ld:l ≠ nd:=Ne.symm (ne_of_none h3 hln)
  rw [put_dz nin]
  refine ⟨il,fun y=>if y=z then l else M y,fun y=>if y=z then ys' else N y,_,rfl,?_,?_,(kp3.trans (Keep.new hln)).trans (Keep.at (by simp)),upd_same⟩
  ·rw [tk]
   refine dz_congr fun y _=>?_
   dsimp only
   by_cases e:y=z
   ·rw [if_pos e,if_pos e]
   ·rw [if_neg e,if_neg e]
  ·intro y hy
   rw [tk] at hy
   dsimp only
   by_cases e:y=z
   ·subst e
    rw [if_pos rfl,if_pos rfl]
    exact ⟨by rw [upd_ne ld,upd_same],kp3.none (by simp [ld]) hln,ld,hp,hs⟩
   ·rw [if_neg e,if_neg e]
    have hy':y ∈ zs.take i:=by rcases List.mem_append.mp hy with q | q;exact q;exact absurd (List.mem_singleton.mp q) e
    obtain ⟨g1,g2,g3,g4,g5⟩:=hm y hy'
    exact ⟨by rw [upd_ne g3,upd_ne (ne_of_none g1 hln)];exact g1,g2,g3,g4,g5⟩
 rintro ys τ H3 ⟨_,M,N,k,rfl,rfl,hm,kp3,h3⟩
 rw [List.length_map,List.take_length] at hm h3
 have k23:Keep [] H2 H3:=kp3.drop hnd
 exact q nd M N H3 (k02.none (by simp) hnd) (fun z hz=>k02.none (by simp) (hm z hz).2.1) ⟨h3,fun z hz=>(hm z hz).1,fun z hz=>(hm z hz).2.2.2.1,fun z hz=>(hm z hz).2.2.2.2⟩ (k02.trans k23)
end
theorem nodup_le:∀ {ks zs:List Str},ks.Nodup->(∀ y ∈ ks,y ∈ zs)->ks.length <= zs.length:=by
 intro ks
 induction ks with
 | nil=>intro zs _ _;exact Nat.zero_le _
 | cons k ks ih=>
  intro zs nd h
  have nk:=(List.nodup_cons.mp nd).1
  have hk:=h k List.mem_cons_self
  have:=ih (zs:=zs.erase k) (List.nodup_cons.mp nd).2 (fun y hy=>by
   have ne:y ≠ k:=fun e=>nk (e ▸ hy)
   exact (List.mem_erase_of_ne ne).mpr (h y (List.mem_cons_of_mem _ hy)))
  rw [List.length_erase_of_mem hk] at this
  have l0:=List.length_pos_of_mem hk
  rw [List.length_cons];omega
structure Led (zs:List Str) (N:Str->List Str) (goal:Str) (ks:List Str) (nx:Str->Str):Prop where
 nd:ks.Nodup
 g:goal ∈ ks
 z:∀ y ∈ ks,y ∈ zs
 o:∀ i y,ks[i]?=some y->y ≠ goal->nx y ∈ ks.take i/\y ∈ N (nx y)
theorem Led.snoc {zs:List Str} {N:Str->List Str} {goal:Str} {ks:List Str} {nx:Str->Str} (h:Led zs N goal ks nx) {o here:Str} (no:o ∉ ks) (oz:o ∈ zs) (hh:here ∈ ks) (on:o ∈ N here) :
  Led zs N goal (ks ++ [o]) (fun y=>if y=o then here else nx y):=by
 refine ⟨?_,List.mem_append_left _ h.g,?_,?_⟩
 ·refine List.nodup_append.mpr ⟨h.nd,List.nodup_cons.mpr ⟨by simp,List.nodup_nil⟩,?_⟩
  intro a ha b hb e
  exact no (List.mem_singleton.mp hb ▸ e ▸ ha)
 ·intro y hy
  rcases List.mem_append.mp hy with q | q
  ·exact h.z y q
  ·rw [List.mem_singleton.mp q];exact oz
 ·intro i y hy ng
  by_cases il:i < ks.length
  ·rw [List.getElem?_append_left il] at hy
   have ne:y ≠ o:=fun e=>no (e ▸ List.mem_of_getElem? hy)
   rw [if_neg ne,List.take_append_of_le_length (by omega)]
   exact h.o i y hy ng
  ·rw [List.getElem?_append_right (by omega)] at hy
   have i0:i - ks.length=0:=by
    cases e:i - ks.length with
    | zero=>rfl
    | succ k=>rw [e] at hy;simp at hy
   rw [i0] at hy
   have e:o=y:=by simpa using hy
   subst e
   have il':i=ks.length:=by omega
   subst il'
   rw [if_pos rfl,List.take_append_of_le_length (Nat.le_refl _),List.take_length]
   exact ⟨hh,on⟩
def stp (goal:Str) (nx:Str->Str) (y:Str):V:=if y=goal then .non else .str (nx y)
theorem put_stp {goal:Str} {nx:Str->Str} {ks:List Str} {o here:Str} (no:o ∉ ks) (g:goal ∈ ks):putK (dz ks (stp goal nx)) (Sum.inr o) (.str here)=dz (ks ++ [o]) (stp goal (fun y=>if y=o then here else nx y)):=by
 rw [put_dz no]
 refine dz_congr fun y _=>?_
 unfold stp
 have og:o ≠ goal:=fun e=>no (e ▸ g)
 by_cases e:y=o
 ·subst e;rw [if_pos rfl,if_neg og];dsimp only;rw [if_pos rfl]
 ·rw [if_neg e];dsimp only;rw [if_neg e]
theorem dz_len (ks:List Str) (f:Str->V):(dz ks f).length=ks.length:=List.length_map _
abbrev sSteps:Stmt:=top 26
section
variable {P:Program} {w:World} {K:PySem.W.Frag} {mg:Str->Option Value} {base:Heap} {C:Addr}
theorem scSteps:FnScope ["near","goal","steps","fresh","here","other"] ["near","goal"] (defScope sSteps):=⟨rfl,rfl,rfl,by decide +kernel,rfl,by decide +kernel,by decide +kernel⟩
def StepW (H:Hp) (nd sd fl:Addr) (goal:Str) (zs:List Str) (N:Str->List Str) (m:Nat) (σ:St) (H1:Hp):Prop:=∃ (ks fs:List Str) (nx:Str->Str) (v4 v5:Option V),σ=[some (.ref nd),some (.str goal),some (.ref sd),some (.ref fl),v4,v5]/\m=2 * (zs.length - ks.length) + fs.length/\Led zs N goal ks nx/\(∀ y ∈ fs,y ∈ ks)/\fs.length <= ks.length /\
  (∀ z ∈ ks,z ∉ fs->∀ y ∈ N z,y ∈ ks)/\Keep [sd,fl] H H1/\H1 sd=some (.dK (dz ks (stp goal nx)))/\H1 fl=some (.lst (fs.map V.str))
def spSteps:Sp:=fun vs H Q _=>∃ (nd:Addr) (zs:List Str) (ps:List (Str × Str)) (L:Str->Addr) (N:Str->List Str) (goal:Str),vs=[.ref nd,.str goal]/\NearAt H nd zs ps L N/\zs.length < 60/\goal ∈ zs/\(∀ z ∈ zs,∀ y ∈ N z,y ∈ zs) /\
 ∀ (sd:Addr) (ks:List Str) (nx:Str->Str) (H':Hp),H sd=none->Led zs N goal ks nx->(∀ z ∈ ks,∀ y ∈ N z,y ∈ ks)->H' sd=some (.dK (dz ks (stp goal nx)))->Keep [] H H'->Q (.ref sd) H'
theorem okSteps (G:FunG K mg "steps_toward" sSteps ["near","goal"]):Cal P w K mg base CX0 1 "steps_toward" ["near","goal"] spSteps:=by
 refine G.ok scSteps (fun vs H Q E h=>by obtain ⟨nd,zs,ps,L,N,goal,rfl,_⟩:=h;rfl) (fun f cdv A outer s H vs Q E hr h=>?_)
 obtain ⟨nd,zs,ps,L,N,goal,rfl,na,lz,gz,nz,q⟩:=h
 have hu:=hu_of hr
 refine ⟨_,(pss_cons (ps_set (i:=2) scSteps.nd rfl (Or.inl rfl) (pe_disp (pps_cons (pv 1) pe_non pps_nil) rfl rfl (by simp) (by decide)))
   (pss_cons (ps_set (i:=3) scSteps.nd rfl (Or.inl rfl) (pe_lst (pa_cons (pv 1) pa_nil)))
   (pss_cons (ps_while PassesOwn.never (pt_truth (pv 3) (fun _=>rfl)) (pss_cons (ps_set (i:=4) scSteps.nd rfl (Or.inl rfl) (pe_bm0 PySem.F.plainAttrs_list PySem.F.slot_list_pop PySem.F.type_list_pop mt_pop (pv 3)))
   (pss_one (ps_for PassesOwn.never rfl (pi_list (pe_dget hu (pv 0) (pv 4) (fun _ _=>rfl))) (pg_name (i:=5) scSteps.nd rfl (Or.inl rfl)) (pss_one (ps_if (pt_cmp (pc_dnotin hu (pv 5) (pv 2))) (pss_cons (ps_dput hu (pv 2) (pv 5) (pv 4) rfl)
   (pss_one (ps_expr (pe_bm PySem.F.plainAttrs_list PySem.F.slot_list_append PySem.F.type_list_append mt_append (pv 3) (pa_cons (pv 5) pa_nil))))) pss_nil))))))
   (pss_one (ps_ret (pv 2)))))),?_⟩
 intro sd hsd
 refine ⟨_,rfl,upd_same,[(Sum.inr goal,.non)],rfl,by simp,?_⟩
 rw [upd_upd]
 refine ⟨_,rfl,by simp [sizeLine_eq],fun fl hfl=>?_⟩
 have fs0:fl ≠ sd:=fun e=>by rw [e,upd_same] at hfl;cases hfl
 have hfl0:H fl=none:=by rw [upd_ne fs0] at hfl;exact hfl
 refine ⟨StepW H nd sd fl goal zs N,⟨_,[goal],[goal],fun _=>goal,_,_,rfl,rfl,⟨by simp,by simp,(fun y hy=>by rw [List.mem_singleton.mp hy];exact gz),?_⟩,(fun y hy=>hy),Nat.le_refl _,(fun z hz nz=>absurd hz nz),?_,?_,upd_same⟩,?_⟩
 ·intro i y hy ng
  exact absurd (List.mem_singleton.mp (List.mem_of_getElem? hy)) ng
 ·exact (Keep.at (by simp)).trans (Keep.at (by simp))
 ·rw [upd_ne fs0.symm,upd_same]
  show some (HO.dK [(Sum.inr goal,V.non)])=some (HO.dK [(Sum.inr goal,if goal=goal then .non else .str goal)])
  rw [if_pos rfl]
 rintro m σ H1 ⟨ks,fs,nx,v4,v5,rfl,rfl,led,fk,fle,cl,kp,h1,hf⟩
 have sf:sd ≠ fl:=fs0.symm
 rcases List.eq_nil_or_concat fs with rfl | ⟨fs,here,e⟩
 ·refine ⟨_,rfl,_,.inl ⟨_,.of hf,rfl⟩,ifF rfl ?_⟩
  refine ⟨_,rfl,?_⟩
  refine q sd ks nx H1 hsd led (fun z hz=>cl z hz (by simp)) h1 ?_
  intro u o hu ho
  refine kp u o ?_ ho
  have n1:u ≠ sd:=fun e=>by rw [e,hsd] at ho;cases ho
  have n2:u ≠ fl:=fun e=>by rw [e,hfl0] at ho;cases ho
  simp [n1,n2]
 rw [List.concat_eq_append] at e
 subst e
 refine ⟨_,rfl,_,.inl ⟨_,.of hf,rfl⟩,ifT (by simp) ?_⟩
 have hk:here ∈ ks:=fk here (by simp)
 have hz:here ∈ zs:=led.z _ hk
 have ef:(fs ++ [here]).map V.str=fs.map V.str ++ [.str here]:=by rw [List.map_append];rfl
 rw [ef] at hf
 rw [List.length_append] at fle
 have fle':fs.length + 1 <= ks.length:=fle
 have out:∀ {u:Addr} {o:HO},H u=some o->u ∉ [sd,fl]:=fun {u o} ho=>by
  have n1:u ≠ sd:=fun e=>by rw [e,hsd] at ho;cases ho
  have n2:u ≠ fl:=fun e=>by rw [e,hfl0] at ho;cases ho
  simp [n1,n2]
 refine ⟨fun σ' H'=>∃ m',m' < 2 * (zs.length - ks.length) + (fs ++ [here]).length/\StepW H nd sd fl goal zs N m' σ' H',fun _ _ h=>h,?_⟩
 refine ⟨_,rfl,Or.inl ⟨rfl,_,.of hf⟩,fl,_,.str here,rfl,rfl,hf,by simp,?_⟩
 rw [show (fs.map V.str ++ [V.str here]).dropLast=fs.map V.str from List.dropLast_concat]
 have kp1:Keep [sd,fl] H (upd H1 fl (.lst (fs.map V.str))):=kp.trans (Keep.at (by simp))
 refine ⟨_,rfl,_,rfl,nd,_,rfl,by have z:=DGet.k (k:=Sum.inr here) (kp1 _ _ (out na.d) na.d);rw [val_dz hz] at z;exact z,L here,rfl,⟨_,.of (kp1 _ _ (out (na.l here hz)) (na.l here hz))⟩,?_⟩
 refine for_list (K:=K) (a:=L here) (xs:=(N here).map V.str) (fun i σ H2=>∃ (ks2 fs2:List Str) (nx2:Str->Str) (v5:Option V),σ=[some (.ref nd),some (.str goal),some (.ref sd),some (.ref fl),some (.str here),v5] /\
  2 * (zs.length - ks2.length) + fs2.length < 2 * (zs.length - ks.length) + (fs ++ [here]).length/\Led zs N goal ks2 nx2/\here ∈ ks2/\(∀ y ∈ fs2,y ∈ ks2)/\fs2.length <= ks2.length/\(∀ z ∈ ks2,z ∉ fs2->z ≠ here->∀ y ∈ N z,y ∈ ks2)/\(∀ y ∈ (N here).take i,y ∈ ks2) /\
  Keep [sd,fl] H H2/\H2 sd=some (.dK (dz ks2 (stp goal nx2)))/\H2 fl=some (.lst (fs2.map V.str))) ?_ (fun i σ H2 _ ⟨_,_,_,_,_,_,_,_,_,_,_,_,k2,_⟩=>.of (k2 _ _ (out (na.l here hz)) (na.l here hz))) ?_ ?_
 ·refine ⟨ks,fs,nx,_,rfl,by simp,led,hk,(fun y hy=>fk y (List.mem_append_left _ hy)),by omega,?_,(fun y hy=>by simp at hy),kp1,?_,upd_same⟩
  ·intro z hz' nf ne
   refine cl z hz' fun hm=>?_
   rcases List.mem_append.mp hm with a | a
   ·exact nf a
   ·exact ne (List.mem_singleton.mp a)
  ·rw [upd_ne sf];exact h1
 ·rintro i y σ H2 hi ⟨ks2,fs2,nx2,v5,rfl,ml,led2,hk2,fk2,fl2,cl2,tk2,kp2,h2,hf2⟩
  rw [List.getElem?_map] at hi
  cases eo:(N here)[i]? with
  | none=>rw [eo] at hi;cases hi
  | some o=>
  rw [eo] at hi
  have ex:V.str o=y:=Option.some.inj hi
  subst ex
  have on:o ∈ N here:=List.mem_of_getElem? eo
  have oz:o ∈ zs:=nz here hz o on
  have tk:(N here).take (i + 1)=(N here).take i ++ [o]:=by rw [List.take_add_one,eo];rfl
  by_cases ok:o ∈ ks2
  ·refine ⟨_,rfl,_,rfl,sd,_,rfl,DGet.k (k:=Sum.inr o) h2,_,rfl,?_⟩
   rw [val_dz ok]
   refine ifF rfl ?_
   refine ⟨ks2,fs2,nx2,_,rfl,ml,led2,hk2,fk2,fl2,cl2,?_,kp2,h2,hf2⟩
   intro y hy
   rw [tk] at hy
   rcases List.mem_append.mp hy with a | a
   ·exact tk2 y a
   ·rw [List.mem_singleton.mp a];exact ok
  ·refine ⟨_,rfl,_,rfl,sd,_,rfl,DGet.k (k:=Sum.inr o) h2,_,rfl,?_⟩
   rw [val_dz_no ok]
   refine ifT rfl ?_
   have led3:=led2.snoc ok oz hk2 on
   have l3:=nodup_le led3.nd led3.z
   rw [List.length_append] at l3
   have l3':ks2.length + 1 <= zs.length:=l3
   refine ⟨_,rfl,_,rfl,_,rfl,sd,_,rfl,DPut.k (k:=Sum.inr o) h2 (by rw [dz_len,sizeLine_eq];omega),?_⟩
   rw [put_stp ok led2.g]
   have hf3:upd H2 sd (.dK (dz (ks2 ++ [o]) (stp goal (fun y=>if y=o then here else nx2 y)))) fl=some (.lst (fs2.map V.str)):=by rw [upd_ne sf.symm];exact hf2
   refine ⟨_,rfl,Or.inl ⟨rfl,_,.of hf3⟩,_,rfl,fl,_,_,rfl,rfl,hf3,by rw [List.length_map,sizeLine_eq];omega,?_⟩
   refine ⟨ks2 ++ [o],fs2 ++ [o],_,_,rfl,?_,led3,List.mem_append_left _ hk2,?_,by rw [List.length_append,List.length_append];omega,?_,?_,(kp2.trans (Keep.at (by simp))).trans (Keep.at (by simp)),by rw [upd_ne sf,upd_same],by rw [upd_same,List.map_append];rfl⟩
   ·have e1:(ks2 ++ [o]).length=ks2.length + 1:=by simp
    have e2:(fs2 ++ [o]).length=fs2.length + 1:=by simp
    rw [e1,e2]
    omega
   ·intro y hy
    rcases List.mem_append.mp hy with a | a
    ·exact List.mem_append_left _ (fk2 y a)
    ·exact List.mem_append_right _ a
   ·intro z hz' nf ne y hy
    rcases List.mem_append.mp hz' with a | a
    ·exact List.mem_append_left _ (cl2 z a (fun b=>nf (List.mem_append_left _ b)) ne y hy)
    ·exact absurd (List.mem_append_right _ a) nf
   ·intro y hy
    rw [tk] at hy
    rcases List.mem_append.mp hy with a | a
    ·exact List.mem_append_left _ (tk2 y a)
    ·exact List.mem_append_right _ a
 ·rintro σ H2 ⟨ks2,fs2,nx2,v5,rfl,ml,led2,hk2,fk2,fl2,cl2,tk2,kp2,h2,hf2⟩
  rw [List.length_map,List.take_length] at tk2
  refine ⟨_,ml,ks2,fs2,nx2,_,_,rfl,rfl,led2,fk2,fl2,?_,kp2,h2,hf2⟩
  intro z hz' nf
  by_cases e:z=here
  ·subst e;exact tk2
  ·exact cl2 z hz' nf e
end
def normP (p:Str × Str):Str × Str:=(minS p.1 p.2,maxS p.1 p.2)
theorem norm_is (p:Str × Str):normP p=p \/ normP p=(p.2,p.1):=by
 obtain ⟨a,b⟩:=p
 unfold normP minS maxS
 cases h1:ltS b a with
 | true=>
  have h2:ltS a b=false:=ltS_asym h1
  right;simp [h1,h2]
 | false=>
  cases h2:ltS a b with
  | true=>left;simp [h1,h2]
  | false=>
   have e:=ltS_tot h1 h2
   subst e
   left;simp [h1]
theorem tie_norm {zs:List Str} {p:Str × Str} (h:TieOk zs p):TieOk zs (normP p):=by
 obtain ⟨a,b,c⟩:=h
 rcases norm_is p with e | e <;> rw [e]
 ·exact ⟨a,b,c⟩
 ·exact ⟨b,a,fun e=>c e.symm⟩
def Conn (zs:List Str) (ps:List (Str × Str)):Prop:=∀ (P:Str->Prop) (z0:Str),z0 ∈ zs->P z0->(∀ t ∈ ps,P t.1 ↔ P t.2)->∀ z ∈ zs,P z
theorem conn_norm {zs zs':List Str} {ps ps':List (Str × Str)} (h:Conn zs ps) (pz:zs'.Perm zs) (pp:ps'.Perm (ps.map normP)):Conn zs' ps':=by
 intro P z0 hz p0 each z hz'
 refine h P z0 (pz.mem_iff.mp hz) p0 (fun t ht=>?_) z (pz.mem_iff.mp hz')
 have:=each (normP t) (pp.mem_iff.mpr (List.mem_map.mpr ⟨t,ht,rfl⟩))
 rcases norm_is t with e | e
 ·rw [e] at this;exact this
 ·rw [e] at this;exact this.symm
theorem raw_1 {ps:List (Str × Str)} {t:Str × Str} (h:t ∈ ps):t.2 ∈ rawN ps t.1:=by
 unfold rawN
 exact List.mem_flatMap.mpr ⟨t,h,by rw [if_pos rfl];exact List.mem_singleton.mpr rfl⟩
theorem raw_2 {ps:List (Str × Str)} {t:Str × Str} (h:t ∈ ps) (n:t.1 ≠ t.2):t.1 ∈ rawN ps t.2:=by
 unfold rawN
 exact List.mem_flatMap.mpr ⟨t,h,by rw [if_neg n,if_pos rfl];exact List.mem_singleton.mpr rfl⟩
theorem raw_in {zs:List Str} {ps:List (Str × Str)} (tz:∀ p ∈ ps,TieOk zs p) {z y:Str} (h:y ∈ rawN ps z):y ∈ zs:=by
 unfold rawN at h
 obtain ⟨t,ht,hy⟩:=List.mem_flatMap.mp h
 obtain ⟨a,b,_⟩:=tz t ht
 by_cases e1:t.1=z
 ·rw [if_pos e1] at hy;rw [List.mem_singleton.mp hy];exact b
 ·rw [if_neg e1] at hy
  by_cases e2:t.2=z
  ·rw [if_pos e2] at hy;rw [List.mem_singleton.mp hy];exact a
  ·rw [if_neg e2] at hy;cases hy
theorem led_all {zs:List Str} {ps:List (Str × Str)} {N:Str->List Str} {goal:Str} {ks:List Str} {nx:Str->Str} (cn:Conn zs ps) (tz:∀ p ∈ ps,TieOk zs p) (nd:zs.Nodup) (pn:∀ z ∈ zs,(N z).Perm (rawN ps z)) (led:Led zs N goal ks nx) (cl:∀ z ∈ ks,∀ y ∈ N z,y ∈ ks) :
  (∀ z ∈ zs,z ∈ ks)/\ks.length=zs.length:=by
 have all:∀ z ∈ zs,z ∈ ks:=cn (· ∈ ks) goal (led.z _ led.g) led.g fun t ht=>by
  obtain ⟨a,b,c⟩:=tz t ht
  exact ⟨fun h=>cl t.1 h t.2 ((pn t.1 a).mem_iff.mpr (raw_1 ht)),fun h=>cl t.2 h t.1 ((pn t.2 b).mem_iff.mpr (raw_2 ht c))⟩
 exact ⟨all,Nat.le_antisymm (nodup_le led.nd led.z) (nodup_le nd all)⟩
def tfl (nl pl nd:Addr):List (Str × V):=[("names",.ref nl),("pairs",.ref pl),("near",.ref nd)]
theorem tn1:¬ (("names" : Str)="pairs"):=by decide +kernel
theorem tn2:¬ (("names" : Str)="near"):=by decide +kernel
theorem tn3:¬ (("pairs" : Str)="near"):=by decide +kernel
theorem tput (nl pl nd:Addr):putF "near" (.ref nd) (putF "pairs" (.ref pl) (putF "names" (.ref nl) []))=tfl nl pl nd:=by
 unfold tfl
 simp only [putF,if_neg tn1,if_neg tn2,if_neg tn3]
def tf2 (nl pl:Addr):List (Str × V):=[("names",.ref nl),("pairs",.ref pl)]
theorem tput2 (nl pl:Addr):putF "pairs" (.ref pl) (putF "names" (.ref nl) [])=tf2 nl pl:=by
 unfold tf2
 simp only [putF,if_neg tn1]
structure TreeT (K:PySem.W.Frag) (C:Addr):Prop where
 cl:Cls K C
 nN:NoAttr K C "names"
 nP:NoAttr K C "pairs"
 nR:NoAttr K C "near"
def TreeAt (B:Hp) (C:Addr) (H:Hp) (p:Addr) (zs:List Str) (ps:List (Str × Str)):Prop:=∃ (dx nl pl nd:Addr) (L:Str->Addr) (N:Str->List Str),(B nl=none/\B pl=none/\B nd=none/\∀ z ∈ zs,B (L z)=none) /\
 H p=some (.ins C dx (tfl nl pl nd))/\H nl=some (.lst (zs.map V.str))/\Rows H pl (ps.map pairV)/\NearAt H nd zs ps L N
theorem paired_far {S:List Addr} {H H':Hp} (k:Keep S H H') (n:∀ b ∈ S,∀ xs,H b ≠ some (.tup xs)) {qs:List Addr} {rows:List (List V)} (h:Paired (fun q r=>H q=some (.tup r)) qs rows):Paired (fun q r=>H' q=some (.tup r)) qs rows:=by
 induction h with
 | nil=>exact .nil
 | cons e _ ih=>exact .cons (k _ _ (fun z=>n _ z _ e) e) ih
theorem TreeAt.keep {B:Hp} {C:Addr} {H H':Hp} {p:Addr} {zs:List Str} {ps:List (Str × Str)} {S:List Addr} (h:TreeAt B C H p zs ps) (k:Keep S H H') (hS:∀ b ∈ S,b ≠ p/\B b ≠ none/\∀ xs,H b ≠ some (.tup xs)):TreeAt B C H' p zs ps:=by
 obtain ⟨dx,nl,pl,nd,L,N,⟨b1,b2,b3,b4⟩,h1,h2,⟨qs,h3,h4⟩,h5⟩:=h
 have far:∀ {u:Addr},B u=none->u ∉ S:=fun {u} hb hm=>(hS u hm).2.1 hb
 exact ⟨dx,nl,pl,nd,L,N,⟨b1,b2,b3,b4⟩,k _ _ (fun hm=>(hS p hm).1 rfl) h1,k _ _ (far b1) h2,⟨qs,k _ _ (far b2) h3,paired_far k (fun b hb=>(hS b hb).2.2) h4⟩,
  ⟨k _ _ (far b3) h5.d,fun z hz=>k _ _ (far (b4 z hz)) (h5.l z hz),h5.p,h5.s⟩⟩
theorem TreeAt.on {B:Hp} {C:Addr} {H H':Hp} {p:Addr} {zs:List Str} {ps:List (Str × Str)} (h:TreeAt B C H p zs ps) (k:Keep [] H H'):TreeAt B C H' p zs ps:=h.keep k fun b hb=>by cases hb
abbrev sInit:Stmt:=inClass (top 27) 0
abbrev sHouses:Stmt:=inClass (top 27) 1
abbrev sTies:Stmt:=inClass (top 27) 2
section
variable {P:Program} {w:World} {K:PySem.W.Frag} {mg:Str->Option Value} {base:Heap} {C:Addr}
theorem scInit:FnScope ["self","houses","ties"] ["self","houses","ties"] (defScope sInit):=⟨rfl,rfl,rfl,by decide +kernel,rfl,by decide +kernel,by decide +kernel⟩
theorem scHouses:FnScope ["self"] ["self"] (defScope sHouses):=⟨rfl,rfl,rfl,by decide +kernel,rfl,by decide +kernel,by decide +kernel⟩
theorem scTies:FnScope ["self"] ["self"] (defScope sTies):=⟨rfl,rfl,rfl,by decide +kernel,rfl,by decide +kernel,by decide +kernel⟩
def spHouses (C:Addr):Sp:=fun vs H Q _=>∃ (p:Addr) (B:Hp) (zs:List Str) (ps:List (Str × Str)),vs=[.ref p]/\TreeAt B C H p zs ps/\∀ l,H l=none->Q (.ref l) (upd H l (.lst (zs.map V.str)))
theorem okHouses (T:TreeT K C) (G:MthG K C "houses" "Tree.houses" sHouses ["self"]) (b_list:Blt mg "list"):MCal P w K mg base CX0 1 C "houses" ["self"] (spHouses C):=by
 refine G.ok scHouses (fun vs H Q E h=>by obtain ⟨p,B,zs,ps,rfl,_⟩:=h;rfl) (fun f cdv A outer s0 H vs Q E hr h=>?_)
 obtain ⟨p,B,zs,ps,rfl,⟨dx,nl,pl,nd,L,N,_,h1,h2,h3,h4⟩,q⟩:=h
 refine ⟨_,(pss_one (ps_ret (pe_callTy call_list_of rfl b_list.no bo_list (pa_cons (pe_fld (pv 0) rfl) pa_nil)))),?_⟩
 exact ⟨_,rfl,p,C,dx,_,_,rfl,h1,T.cl,T.nN,rfl,nl,_,rfl,.inl (.of h2),fun l hl=>q l hl⟩
def spTies (C:Addr):Sp:=fun vs H Q _=>∃ (p:Addr) (B:Hp) (zs:List Str) (ps:List (Str × Str)),vs=[.ref p]/\TreeAt B C H p zs ps/\∀ l H',H l=none->Rows H' l (ps.map pairV)->Keep [] H H'->Q (.ref l) H'
theorem okTies (T:TreeT K C) (G:MthG K C "ties" "Tree.ties" sTies ["self"]) (b_list:Blt mg "list"):MCal P w K mg base CX0 1 C "ties" ["self"] (spTies C):=by
 refine G.ok scTies (fun vs H Q E h=>by obtain ⟨p,B,zs,ps,rfl,_⟩:=h;rfl) (fun f cdv A outer s0 H vs Q E hr h=>?_)
 obtain ⟨p,B,zs,ps,rfl,⟨dx,nl,pl,nd,L,N,_,h1,h2,⟨qs,h3,h3'⟩,h4⟩,q⟩:=h
 refine ⟨_,(pss_one (ps_ret (pe_callTy call_list_of rfl b_list.no bo_list (pa_cons (pe_fld (pv 0) rfl) pa_nil)))),?_⟩
 refine ⟨_,rfl,p,C,dx,_,_,rfl,h1,T.cl,T.nP,rfl,pl,_,rfl,.inl (.of h3),fun l hl=>q l _ hl ⟨qs,upd_same,?_⟩ (Keep.new hl)⟩
 exact paired_far (S:=[]) (Keep.new hl) (fun b hb=>by cases hb) h3'
end
theorem cut_to {α:Type} (f:α->V) (l:List α) {k:Int} (hk:0 <= k):cutV (l.map f) none (some k)=(l.take k.toNat).map f:=by
 unfold cutV
 obtain ⟨n,rfl⟩:=Int.eq_ofNat_of_zero_le hk
 rw [HT.sIx_none,HT.sIx_nat,List.drop_zero,List.length_map,Nat.sub_zero,<- List.map_take]
 congr 1
 rcases Nat.le_total n l.length with h | h
 ·rw [Nat.min_eq_left h];rfl
 ·rw [Nat.min_eq_right h,List.take_of_length_le (Nat.le_refl _)];exact (List.take_of_length_le h).symm
theorem cut_from {α:Type} (f:α->V) (l:List α) {k:Int} (hk:0 <= k):cutV (l.map f) (some k) none=(l.drop k.toNat).map f:=by
 unfold cutV
 obtain ⟨n,rfl⟩:=Int.eq_ofNat_of_zero_le hk
 rw [HT.sIx_none,HT.sIx_nat,List.length_map,<- List.map_drop,<- List.map_take]
 congr 1
 show (l.drop (min n l.length)).take (l.length - min n l.length)=l.drop n
 rcases Nat.le_total n l.length with h | h
 ·rw [Nat.min_eq_left h,List.take_of_length_le (by rw [List.length_drop];omega)]
 ·rw [Nat.min_eq_right h,List.drop_of_length_le (Nat.le_refl _),List.drop_of_length_le h];simp
def turn {α:Type} (k:Nat) (b:Bool) (xs:List α):List α:=if b then (xs.drop k ++ xs.take k).reverse else xs.drop k ++ xs.take k
theorem rot_perm {α:Type} (k:Nat) (xs:List α):(xs.drop k ++ xs.take k).Perm xs:=by
 have:=@List.perm_append_comm _ (xs.drop k) (xs.take k)
 rw [List.take_append_drop] at this
 exact this
theorem turn_perm {α:Type} (k:Nat) (b:Bool) (xs:List α):(turn k b xs).Perm xs:=by
 unfold turn
 cases b with
 | false=>exact rot_perm k xs
 | true=>exact (List.reverse_perm _).trans (rot_perm k xs)
theorem turn_map {α β:Type} (f:α->β) (k:Nat) (b:Bool) (xs:List α):(turn k b xs).map f=turn k b (xs.map f):=by
 unfold turn
 cases b <;> simp [List.map_drop,List.map_take,List.map_reverse]
theorem map_eraseS:∀ (ws:List Str) (k:Nat),(ws.map V.str).eraseIdx k=(ws.eraseIdx k).map V.str:=by
 intro ws
 induction ws with
 | nil=>intro k;rfl
 | cons w ws ih=>
  intro k
  cases k with
  | zero=>rfl
  | succ k=>show V.str w :: (ws.map V.str).eraseIdx k=V.str w :: (ws.eraseIdx k).map V.str;rw [ih]
theorem erase_perm {α:Type}:∀ (ws:List α) (k:Nat) (h:k < ws.length),(ws[k] :: ws.eraseIdx k).Perm ws:=by
 intro ws
 induction ws with
 | nil=>intro k h;exact absurd h (Nat.not_lt_zero _)
 | cons w ws ih=>
  intro k h
  cases k with
  | zero=>exact .refl _
  | succ k=>
   have h':k < ws.length:=Nat.lt_of_succ_lt_succ h
   exact (List.Perm.swap _ _ _).trans ((ih k h').cons w)
theorem Src.on {H H':Hp} {p:Addr} (h:Src H p) (k:Keep [] H H'):Src H' p:=by
 obtain ⟨a,b,c,e⟩:=h
 exact ⟨a,b,c,k _ _ (by simp) e⟩
theorem Src.ne {H:Hp} {p l:Addr} (h:Src H p) (hl:H l=none):l ≠ p:=by
 obtain ⟨a,b,c,e⟩:=h
 exact Ne.symm (ne_of_none e hl)
abbrev sWord:Stmt:=top 32
abbrev sTurned:Stmt:=top 34
abbrev sShuf:Stmt:=top 35
section
variable {P:Program} {w:World} {K:PySem.W.Frag} {mg:Str->Option Value} {base:Heap} {C:Addr}
theorem scWord:FnScope ["_law_source","_law_most","_law_letters"] ["_law_source","_law_most"] (defScope sWord):=⟨rfl,rfl,rfl,by decide +kernel,rfl,by decide +kernel,by decide +kernel⟩
theorem scTurned:FnScope ["_law_source","_law_things","_law_at","_law_found"] ["_law_source","_law_things"] (defScope sTurned):=⟨rfl,rfl,rfl,by decide +kernel,rfl,by decide +kernel,by decide +kernel⟩
theorem scShuf:FnScope ["_law_source","_law_names_here","_law_left","_law_found"] ["_law_source","_law_names_here"] (defScope sShuf):=⟨rfl,rfl,rfl,by decide +kernel,rfl,by decide +kernel,by decide +kernel⟩
def spWord:Sp:=fun vs H Q _=>∃ (p:Addr) (m:Int),vs=[.ref p,.int m]/\Src H p/\0 <= m/\m <= 90 /\
 ∀ (z:Str) (H':Hp),LowS z->(z.length:Int) <= m->Keep [p] H H'->Src H' p->Q (.str z) H'
theorem okWord (G:FunG K mg "_law_word" sWord ["_law_source","_law_most"]) (CN:Cal P w K mg base CX0 2 "_law_next" ["_law_source","_law_many"] spNext) (b_range:Blt mg "range") :
  Cal P w K mg base CX0 3 "_law_word" ["_law_source","_law_most"] spWord:=by
 refine G.ok scWord (fun vs H Q E h=>by obtain ⟨p,m,rfl,_⟩:=h;rfl) (fun f cdv A outer s H vs Q E hr h=>?_)
 obtain ⟨p,m,rfl,⟨a,b,c,hp⟩,m0,m1,q⟩:=h
 have hr2:Room 2 _:=hr
 refine ⟨_,(pss_cons (ps_set (i:=2) scWord.nd rfl (Or.inr rfl) pe_str)
   (pss_one (ps_ret (pe_bm PySem.F.plainAttrs_str PySem.F.slot_str_join PySem.F.type_str_join mt_join pe_str (pa_cons (pe_lc1 (N:=["_law_source","_law_most","_law_letters"]) (sc:=defScope sWord) (ix:=[2,0]) (by decide +kernel) (pi_range1 rfl b_range.no (pa_cons (pe_cal CN hr2 (pa_cons (pv 0) (pa_cons (pe_op op_add (pv 1) pe_int) pa_nil))) pa_nil)) (fun _ _ _ _=>pts_nil) (fun _ _ _ _=>(pe_ix ix_str (pv 1) (pe_cal CN hr2 (pa_cons (pv 2) (pa_cons pe_int pa_nil))) (fun _ _=>rfl)))) pa_nil))))),?_⟩
 refine ⟨rfl,_,rfl,_,rfl,_,_,rfl,rfl,p,a,b,c,_,rfl,hp,by omega,by omega,fun v a' c' v0 v1=>⟨_,rfl,by omega,by omega,fun acc ha=>?_⟩⟩
 have k1:Keep [p] H (upd H p (.lst [.int a',.int b,.int c'])):=Keep.at (by simp)
 refine stem_turns (p:=p) (n:=v.toNat) (by omega) ⟨a',b,c',upd_same⟩ ha rfl (fun k H2 R ⟨a2,b2,c2,hs⟩ R'=>?_) ?_
 ·refine ⟨_,rfl,_,rfl,p,a2,b2,c2,26,rfl,hs,by decide,by decide,fun v2 a3 c3 w0 w1=>?_⟩
  obtain ⟨ch,hc1,hc2⟩:=atI_in (xs:=abc.cps.toList) w0 (show v2 < ((26:Nat):Int) from w1)
  exact ⟨_,v2,ch,rfl,rfl,by decide,hc1,R' ch _ (List.mem_of_getElem? hc2) (Keep.at (by simp)) ⟨a3,b2,c3,upd_same⟩⟩
 intro zs H2 hzl hz k2 s2 h2
 refine ⟨"",acc,zs,rfl,rfl,.of h2,by rw [sum_low zs hz,hzl];show _ + _ * 0 <= _;omega,?_⟩
 exact q _ _ (low_join zs fun z h=>(hz z h).1) (by rw [join_len,sum_low zs hz,hzl];omega) (k1.trans k2) s2
def spTurned:Sp:=fun vs H Q _=>∃ (p a:Addr) (xs:List V),vs=[.ref p,.ref a]/\Src H p/\H a=some (.lst xs)/\xs.length <= 1000/\a ≠ p /\
 ∀ (r:Addr) (k:Nat) (b:Bool) (H':Hp),H r=none->H' r=some (.lst (turn k b xs))->Keep [p] H H'->Src H' p->Q (.ref r) H'
theorem okTurned (G:FunG K mg "_law_turned" sTurned ["_law_source","_law_things"]) (CN:Cal P w K mg base CX0 2 "_law_next" ["_law_source","_law_many"] spNext) (b_len:Blt mg "len") :
  Cal P w K mg base CX0 3 "_law_turned" ["_law_source","_law_things"] spTurned:=by
 refine G.ok scTurned (fun vs H Q E h=>by obtain ⟨p,a,xs,rfl,_⟩:=h;rfl) (fun f cdv A outer s H vs Q E hr h=>?_)
 obtain ⟨p,a,xs,rfl,⟨x,y,z,hp⟩,ha,lx,ap,q⟩:=h
 have hr2:Room 2 _:=hr
 refine ⟨_,(pss_cons (ps_set (i:=2) scTurned.nd rfl (Or.inl rfl) (pe_cal CN hr2 (pa_cons (pv 0) (pa_cons (pe_op op_add (pe_blt call_len b_len bo_len (pa_cons (pv 1) pa_nil)) pe_int) pa_nil))))
   (pss_cons (ps_set (i:=3) scTurned.nd rfl (Or.inl rfl) (pe_op op_cat (pe_slice sl_list (pv 1) (po_some (pv 2)) po_none) (pe_slice sl_list (pv 1) po_none (po_some (pv 2)))))
   (pss_one (ps_ret (pe_ix ix_lstH (pe_lst (pa_cons (pv 3) (pa_cons (pe_back (pv 3)) pa_nil))) (pe_cal CN hr2 (pa_cons (pv 0) (pa_cons pe_int pa_nil))) (fun _ _=>rfl)))))),?_⟩
 refine ⟨_,rfl,_,rfl,_,_,rfl,.inl ⟨_,.of ha,rfl⟩,_,_,rfl,rfl,p,x,y,z,_,rfl,hp,by omega,by omega,fun k x1 z1 k0 kl=>?_⟩
 have k1:Keep [p] H (upd H p (.lst [.int x1,.int y,.int z1])):=Keep.at (by simp)
 generalize hH1:upd H p (.lst [.int x1,.int y,.int z1])=H1 at k1
 have s1:Src H1 p:=⟨x1,y,z1,by rw [<- hH1];exact upd_same⟩
 have ha1:=k1 _ _ (by simp [ap]) ha
 refine ⟨_,rfl,_,rfl,k,rfl,a,xs,rfl,.of ha1,fun u hu=>?_⟩
 have k2:Keep [] H1 (upd H1 u (.lst (cutV xs (some k) none))):=Keep.new hu
 refine ⟨_,rfl,_,rfl,k,rfl,a,xs,rfl,.of (k2 _ _ (by simp) ha1),fun u2 hu2=>?_⟩
 obtain ⟨_,u12⟩:=upd_none hu2
 refine ⟨u,u2,_,_,rfl,rfl,by rw [upd_ne u12.symm,upd_same],upd_same,by rw [sizeLine_eq];have:=cutV_length xs (some k) none;have:=cutV_length xs none (some k);omega,fun fo hfo=>?_⟩
 have e1:=cut_from id xs k0
 have e2:=cut_to id xs k0
 rw [List.map_id,List.map_id] at e1 e2
 rw [e1,e2] at hfo ⊢
 generalize hH3:upd (upd (upd H1 u (.lst (xs.drop k.toNat))) u2 (.lst (xs.take k.toNat))) fo (.lst (xs.drop k.toNat ++ xs.take k.toNat))=H3
 have k3:Keep [] H1 H3:=by rw [<- hH3,<- e1];exact k2.trans ((Keep.new hu2).trans (Keep.new (by rw [e1];exact hfo)))
 have hf3:H3 fo=some (.lst (xs.drop k.toNat ++ xs.take k.toNat)):=by rw [<- hH3];exact upd_same
 have n3:H1 fo=none:=by
  refine k2.none (by simp) ?_
  rw [e1]
  exact (Keep.new (S:=[]) (by rw [<- e1];exact hu2)).none (by simp) hfo
 refine ⟨_,rfl,_,rfl,fo,_,rfl,.of hf3,fun bk hbk=>⟨by show 2 <= sizeLine;decide,fun dl hdl=>?_⟩⟩
 have k4:Keep [] H3 (upd H3 bk (.lst (xs.drop k.toNat ++ xs.take k.toNat).reverse)):=Keep.new hbk
 generalize hH4:upd H3 bk (.lst (xs.drop k.toNat ++ xs.take k.toNat).reverse)=H4 at k4 hdl ⊢
 have hb4:H4 bk=some (.lst (xs.drop k.toNat ++ xs.take k.toNat).reverse):=by rw [<- hH4];exact upd_same
 have k5:Keep [] H4 (upd H4 dl (.lst [.ref fo,.ref bk])):=Keep.new hdl
 generalize hH5:upd H4 dl (.lst [.ref fo,.ref bk])=H5 at k5 ⊢
 have hd5:H5 dl=some (.lst [.ref fo,.ref bk]):=by rw [<- hH5];exact upd_same
 have s5:=((s1.on k3).on k4).on k5
 have pb:bk ≠ p:=(s1.on k3).ne hbk
 have pd:dl ≠ p:=((s1.on k3).on k4).ne hdl
 have pf:fo ≠ p:=s1.ne n3
 have nb:H bk=none:=k1.none (by simp [pb]) (k3.none (by simp) hbk)
 have nf:H fo=none:=k1.none (by simp [pf]) n3
 obtain ⟨x5,y5,z5,hp5⟩:=id s5
 refine ⟨_,rfl,p,x5,y5,z5,2,rfl,hp5,by decide,by decide,fun v x6 z6 v0 v1=>?_⟩
 have k6:Keep [p] H5 (upd H5 p (.lst [.int x6,.int y5,.int z6])):=Keep.at (by simp)
 have k06:Keep [p] H (upd H5 p (.lst [.int x6,.int y5,.int z6])):=k1.trans (((k3.trans (k4.trans k5)).mono (by simp)).trans k6)
 rcases (show v=0 \/ v=1 by omega) with rfl | rfl
 ·refine ⟨dl,_,0,_,rfl,rfl,k6 _ _ (by simp [pd]) hd5,rfl,q fo k.toNat false _ nf ?_ k06 ⟨x6,y5,z6,upd_same⟩⟩
  exact k6 _ _ (by simp [pf]) (k5 _ _ (by simp) (k4 _ _ (by simp) hf3))
 ·refine ⟨dl,_,1,_,rfl,rfl,k6 _ _ (by simp [pd]) hd5,rfl,q bk k.toNat true _ nb ?_ k06 ⟨x6,y5,z6,upd_same⟩⟩
  exact k6 _ _ (by simp [pb]) (k5 _ _ (by simp) hb4)
def spShuf:Sp:=fun vs H Q _=>∃ (p a:Addr) (zs:List Str),vs=[.ref p,.ref a]/\Src H p/\H a=some (.lst (zs.map V.str))/\zs.length <= 1000 /\
 ∀ (r:Addr) (zs':List Str) (H':Hp),H r=none->zs'.Perm zs->H' r=some (.lst (zs'.map V.str))->Keep [p] H H'->Src H' p->Q (.ref r) H'
theorem okShuf (G:FunG K mg "_law_shuffled" sShuf ["_law_source","_law_names_here"]) (CN:Cal P w K mg base CX0 2 "_law_next" ["_law_source","_law_many"] spNext) (b_len:Blt mg "len") (b_list:Blt mg "list") :
  Cal P w K mg base CX0 3 "_law_shuffled" ["_law_source","_law_names_here"] spShuf:=by
 refine G.ok scShuf (fun vs H Q E h=>by obtain ⟨p,a,zs,rfl,_⟩:=h;rfl) (fun f cdv A outer s H vs Q E hr h=>?_)
 obtain ⟨p,a,zs,rfl,sr,ha,lx,q⟩:=h
 have hr2:Room 2 _:=hr
 have hu0:=Nat.lt_of_succ_lt (hu_of hr)
 refine ⟨_,(pss_cons (ps_set (i:=2) scShuf.nd rfl (Or.inl rfl) (pe_callTy call_list_of rfl b_list.no bo_list (pa_cons (pv 1) pa_nil)))
   (pss_cons (ps_set (i:=3) scShuf.nd rfl (Or.inl rfl) (pe_lst pa_nil))
   (pss_cons (ps_while PassesOwn.never (pt_cmpR (op_neE hu0) (pv 2) (pe_lst pa_nil) (nomark _)) (pss_one (ps_expr (pe_bm PySem.F.plainAttrs_list PySem.F.slot_list_append PySem.F.type_list_append mt_append (pv 3) (pa_cons (pe_bm PySem.F.plainAttrs_list PySem.F.slot_list_pop PySem.F.type_list_pop mt_popAt (pv 2) (pa_cons (pe_cal CN hr2 (pa_cons (pv 0) (pa_cons (pe_blt call_len b_len bo_len (pa_cons (pv 2) pa_nil)) pa_nil))) pa_nil)) pa_nil)))))
   (pss_one (ps_ret (pv 3)))))),?_⟩
 refine ⟨_,rfl,a,_,rfl,.inl (.of ha),fun l hl=>⟨Nat.zero_le _,fun fo hfo=>?_⟩⟩
 obtain ⟨nfo,fl⟩:=upd_none hfo
 have lp:l ≠ p:=sr.ne hl
 have fp:fo ≠ p:=sr.ne nfo
 refine ⟨fun m σ H1=>∃ (zs1 zs2:List Str),σ=[some (.ref p),some (.ref a),some (.ref l),some (.ref fo)]/\m=zs1.length/\(zs2 ++ zs1).Perm zs/\Src H1 p/\H1 l=some (.lst (zs1.map V.str))/\H1 fo=some (.lst (zs2.map V.str))/\Keep [l,fo,p] H H1,⟨_,zs,[],rfl,rfl,.refl _,(sr.on (Keep.new hl)).on (Keep.new hfo),by rw [upd_ne fl.symm,upd_same],upd_same,(Keep.new hl).trans (Keep.new hfo)⟩,?_⟩
 rintro m σ H1 ⟨zs1,zs2,rfl,rfl,pm,s1,h1,h2,k1⟩
 refine ⟨_,rfl,Nat.zero_le _,fun e he=>?_⟩
 have k2:Keep [] H1 (upd H1 e (.lst [])):=Keep.new he
 have le:l ≠ e:=ne_of_none h1 he
 refine ⟨l,e,_,rfl,rfl,k2 _ _ (by simp) h1,upd_same,le,_,rfl,?_⟩
 generalize upd H1 e (.lst [])=H2 at k2
 have s2:=s1.on k2
 have h12:=k2 _ _ (by simp) h1
 have h22:=k2 _ _ (by simp) h2
 have k02:=k1.trans (k2.mono (S':=[l,fo,p]) (by simp))
 cases zs1 with
 | nil=>
  refine ifF rfl ⟨_,rfl,q fo zs2 H2 nfo (by rw [List.append_nil] at pm;exact pm) h22 ?_ s2⟩
  exact (k02.drop hl).drop nfo
 | cons z0 zs1=>
 refine ifT rfl ?_
 obtain ⟨x,y,z,hp⟩:=id s2
 have ln:=pm.length_eq
 rw [List.length_append] at ln
 have l1:((z0 :: zs1).map V.str).length <= 1000:=by rw [List.length_map];omega
 have l0:0 < ((z0 :: zs1).map V.str).length:=by simp
 generalize z0 :: zs1=ws at *
 refine ⟨fun σ' H'=>∃ m',m' < ws.length/\∃ (zs1 zs2:List Str),σ'=[some (.ref p),some (.ref a),some (.ref l),some (.ref fo)]/\m'=zs1.length/\(zs2 ++ zs1).Perm zs/\Src H' p/\H' l=some (.lst (zs1.map V.str))/\H' fo=some (.lst (zs2.map V.str))/\Keep [l,fo,p] H H',fun _ _ h=>h,?_⟩
 refine ⟨_,rfl,Or.inl ⟨rfl,_,.of h22⟩,_,rfl,Or.inl ⟨rfl,_,.of h12⟩,_,rfl,_,rfl,_,_,rfl,.inl ⟨_,.of h12,rfl⟩,p,x,y,z,_,rfl,hp,by omega,by omega,fun v x' z' v0 v1=>?_⟩
 have vl:v.toNat < ws.length:=by rw [List.length_map] at v1;omega
 have ex:(ws.map V.str)[v.toNat]?=some (.str ws[v.toNat]):=by rw [List.getElem?_map,List.getElem?_eq_getElem vl];rfl
 have ei:seqIndex? v (ws.map V.str).length=some v.toNat:=(ixN_seq (by unfold ixN;rw [if_pos v0,if_pos (by omega)])).1
 refine ⟨l,_,v,v.toNat,.str ws[v.toNat],rfl,rfl,by rw [upd_ne lp];exact h12,by omega,by omega,ei,ex,?_⟩
 refine ⟨fo,_,_,rfl,rfl,by rw [upd_ne fl,upd_ne fp];exact h22,by rw [List.length_map,sizeLine_eq];omega,?_⟩
 have em:(ws.map V.str).eraseIdx v.toNat=(ws.eraseIdx v.toNat).map V.str:=map_eraseS ws v.toNat
 refine ⟨_,?_,ws.eraseIdx v.toNat,zs2 ++ [ws[v.toNat]],rfl,rfl,?_,?_,?_,?_,?_⟩
 ·rw [List.length_eraseIdx_of_lt vl];omega
 ·rw [List.append_assoc]
  exact ((erase_perm ws v.toNat vl).append_left zs2).trans pm
 ·exact ⟨x',y,z',by rw [upd_ne fp.symm,upd_ne lp.symm,upd_same]⟩
 ·rw [upd_ne fl.symm,upd_same,em]
 ·rw [upd_same,List.map_append];rfl
 ·exact ((k02.trans (Keep.at (by simp))).trans (Keep.at (by simp))).trans (Keep.at (by simp))
end
def someN:List Str:=["tree","tie","any","a","ab","aba","b","mend","zzzzzzzz","ask","house","asker"]
theorem some_nd:someN.Nodup:=by decide +kernel
theorem some_good:∀ z ∈ someN,GoodN z:=by
 unfold GoodN
 decide +kernel
def chN (sh:Int) (k:Nat):Nat:=abc.cps.toList.getD ((sh + 2 * (0 + (k:Int))) % 26).toNat 0
theorem abc_len:abc.cps.toList.length=26:=by decide +kernel
theorem chN_at (sh:Int) (k:Nat):atI abc.cps.toList ((sh + 2 * (0 + (k:Int))) % 26)=some (chN sh k)/\chN sh k ∈ abc.cps.toList:=by
 have g0:0 <= (sh + 2 * (0 + (k:Int))) % 26:=Int.emod_nonneg _ (by decide)
 have g1:(sh + 2 * (0 + (k:Int))) % 26 < 26:=Int.emod_lt_of_pos _ (by decide)
 obtain ⟨v,e1,e2⟩:=atI_in (xs:=abc.cps.toList) g0 (by rw [abc_len];exact g1)
 have e:chN sh k=v:=by unfold chN;rw [List.getD_eq_getElem?_getD,e2];rfl
 rw [e]
 exact ⟨e1,List.mem_of_getElem? e2⟩
theorem abc_inj:∀ i j:Fin 26,abc.cps.toList.getD i.val 0=abc.cps.toList.getD j.val 0->i=j:=by decide +kernel
theorem chN_inj {sh:Int} {j k:Nat} (hj:j < 13) (hk:k < 13) (h:chN sh j=chN sh k):j=k:=by
 have g0:∀ k:Nat,0 <= (sh + 2 * (0 + (k:Int))) % 26:=fun k=>Int.emod_nonneg _ (by decide)
 have g1:∀ k:Nat,(sh + 2 * (0 + (k:Int))) % 26 < 26:=fun k=>Int.emod_lt_of_pos _ (by decide)
 have e:=abc_inj ⟨((sh + 2 * (0 + (j:Int))) % 26).toNat,by have:=g0 j;have:=g1 j;omega⟩ ⟨((sh + 2 * (0 + (k:Int))) % 26).toNat,by have:=g0 k;have:=g1 k;omega⟩ h
 have e':((sh + 2 * (0 + (j:Int))) % 26).toNat=((sh + 2 * (0 + (k:Int))) % 26).toNat:=congrArg Fin.val e
 have:=g0 j;have:=g0 k
 omega
theorem app_list (x y:Str):(x ++ y).cps.toList=x.cps.toList ++ y.cps.toList:=by
 show (x.cps ++ y.cps).toList=_
 simp
theorem mid_inj {a b:Str} {c d:Nat} (h:a ++ (⟨#[c]⟩:Str) ++ b=a ++ (⟨#[d]⟩:Str) ++ b):c=d:=by
 have:=congrArg (fun z:Str=>z.cps.toList) h
 simp only [app_list] at this
 simpa using this
theorem end_inj {a b:Str} {c d:Nat} (h:a ++ (⟨#[c]⟩:Str)=b ++ (⟨#[d]⟩:Str)):c=d:=by
 have:=congrArg (fun z:Str=>z.cps.toList.getLast?) h
 simp only [app_list] at this
 simpa using this
theorem cut_lens {x:Str} {i:Int} (h0:0 <= i) (h1:i <= x.length):(Txt.slice x none (some i)).length + (Txt.slice x (some i) none).length=x.length:=by
 have e0:x.cps.toList.length=x.length:=by show x.cps.toList.length=x.cps.size;simp
 have a:=eq_of_beq (PyProof.Rows.slice_closes_to (x:=x) (j:=i) ⟨h0,by rw [e0];exact h1⟩)
 have b:=PyProof.Rows.slice_from_eq (x:=x) (i:=i) (b:=x.length) h0 h1 rfl
 rw [a,b]
 show ((x.cps.toList.drop (0:Int).toNat).take (i - 0).toNat).toArray.size + ((x.cps.toList.drop i.toNat).take ((x.length:Int) - i).toNat).toArray.size=_
 rw [List.size_toArray,List.size_toArray,List.length_take,List.length_take,List.length_drop,List.length_drop,e0]
 omega
theorem snoc_nd {α:Type} {ws:List α} {w:α} (h:ws.Nodup) (n:w ∉ ws):(ws ++ [w]).Nodup:=by
 refine List.nodup_append.mpr ⟨h,List.nodup_cons.mpr ⟨by simp,List.nodup_nil⟩,?_⟩
 intro a ha b hb e
 exact n (List.mem_singleton.mp hb ▸ e ▸ ha)
abbrev sNames:Stmt:=top 33
section
variable {P:Program} {w:World} {K:PySem.W.Frag} {mg:Str->Option Value} {base:Heap} {C:Addr}
theorem scNames:FnScope ["_law_source","_law_many","_law_letters","_law_way","_law_shift","_law_some","_law_stem","_law_at"] ["_law_source","_law_many"] (defScope sNames):=⟨rfl,rfl,rfl,by decide +kernel,rfl,by decide +kernel,by decide +kernel⟩
def spNames:Sp:=fun vs H Q _=>∃ (p:Addr) (m:Int),vs=[.ref p,.int m]/\Src H p/\0 <= m/\m <= 12 /\
 ∀ (r:Addr) (zs:List Str) (H':Hp),H r=none->H' r=some (.lst (zs.map V.str))->zs.length=m.toNat->(∀ z ∈ zs,GoodN z)->zs.Nodup->Keep [p] H H'->Src H' p->Q (.ref r) H'
theorem okNames (G:FunG K mg "_law_names" sNames ["_law_source","_law_many"]) (CN:Cal P w K mg base CX0 2 "_law_next" ["_law_source","_law_many"] spNext) (CW:Cal P w K mg base CX0 3 "_law_word" ["_law_source","_law_most"] spWord) (b_range:Blt mg "range") (b_len:Blt mg "len") :
  Cal P w K mg base CX0 4 "_law_names" ["_law_source","_law_many"] spNames:=by
 refine G.ok scNames (fun vs H Q E h=>by obtain ⟨p,m,rfl,_⟩:=h;rfl) (fun f cdv A outer s0 H vs Q E hr h=>?_)
 obtain ⟨p,m,rfl,⟨a,b,c,hp⟩,m0,m1,q⟩:=h
 have hr3:Room 3 _:=hr
 have hr2:Room 2 _:=hr.mono (by decide)
 refine ⟨_,(pss_cons (ps_set (i:=2) scNames.nd rfl (Or.inr rfl) pe_str)
   (pss_cons (ps_set (i:=3) scNames.nd rfl (Or.inl rfl) (pe_cal CN hr2 (pa_cons (pv 0) (pa_cons pe_int pa_nil))))
   (pss_cons (ps_set (i:=4) scNames.nd rfl (Or.inr rfl) (pe_cal CN hr2 (pa_cons (pv 0) (pa_cons pe_int pa_nil))))
   (pss_cons (ps_if (pt_cmpR op_eq (pv 3) pe_int (nomark _)) (@pss_cons _ _ _ _ _ (@ps_setL _ _ _ 5 _ _ _ _ scNames.nd rfl (Or.inl rfl) (Or.inl rfl) (@pa_all _ _ (someN.map V.str) (.cons .str (.cons .str (.cons .str (.cons .str (.cons .str (.cons .str (.cons .str (.cons .str (.cons .str (.cons .str (.cons .str (.cons .str .nil))))))))))))))
   (pss_one (ps_ret (pe_slice sl_list (pe_op op_cat (pe_slice sl_list (pv 5) (po_some (pe_op op_mod (pv 4) pe_int)) po_none) (pe_slice sl_list (pv 5) po_none (po_some (pe_op op_mod (pv 4) pe_int)))) po_none (po_some (pv 1)))))) pss_nil)
   (pss_cons (ps_set (i:=6) scNames.nd rfl (Or.inr rfl) (pe_cal CW hr3 (pa_cons (pv 0) (pa_cons pe_int pa_nil))))
   (pss_cons (ps_set (i:=7) scNames.nd rfl (Or.inr rfl) (pe_cal CN hr2 (pa_cons (pv 0) (pa_cons (pe_op op_add (pe_blt call_len b_len bo_len (pa_cons (pv 6) pa_nil)) pe_int) pa_nil))))
   (pss_cons (ps_if (pt_cmpR op_eq (pv 3) pe_int (nomark _)) (pss_one (ps_ret (pe_lc1 (N:=["_law_source","_law_many","_law_letters","_law_way","_law_shift","_law_some","_law_stem","_law_at"]) (sc:=defScope sNames) (ix:=[6,2,7,4]) (by decide +kernel) (pi_range1 rfl b_range.no (pa_cons (pv 1) pa_nil)) (fun _ _ _ _=>pts_nil) (fun _ _ _ _=>(pe_op op_add_str (pe_op op_add_str (pe_slice sl_str (pv 1) po_none (po_some (pv 3))) (pe_ix ix_str (pv 2) (pe_op op_mod (pe_op op_add (pv 4) (pe_op op_mul pe_int (pv 0))) pe_int) (fun _ _=>rfl))) (pe_slice sl_str (pv 1) (po_some (pv 3)) po_none)))))) pss_nil)
   (pss_one (ps_ret (pe_lc1 (N:=["_law_source","_law_many","_law_letters","_law_way","_law_shift","_law_some","_law_stem","_law_at"]) (sc:=defScope sNames) (ix:=[0,2,4]) (by decide +kernel) (pi_range1 rfl b_range.no (pa_cons (pv 1) pa_nil)) (fun _ _ _ _=>pts_nil) (fun _ _ _ _=>(pe_op op_add_str (pe_cal CW hr3 (pa_cons (pv 1) (pa_cons pe_int pa_nil))) (pe_ix ix_str (pv 2) (pe_op op_mod (pe_op op_add (pv 3) (pe_op op_mul pe_int (pv 0))) pe_int) (fun _ _=>rfl)))))))))))))),?_⟩
 refine ⟨_,rfl,p,a,b,c,3,rfl,hp,by decide,by decide,fun wy a1 c1 w0 w1=>?_⟩
 refine ⟨_,rfl,p,a1,b,c1,26,rfl,upd_same,by decide,by decide,fun sh a2 c2 h0 h1=>?_⟩
 rw [upd_upd]
 have k1:Keep [p] H (upd H p (.lst [.int a2,.int b,.int c2])):=Keep.at (by simp)
 generalize hH1:upd H p (.lst [.int a2,.int b,.int c2])=H1 at k1
 have s1:Src H1 p:=⟨a2,b,c2,by rw [<- hH1];exact upd_same⟩
 refine ⟨_,rfl,rfl,_,rfl,ite2 (fun e0=>?_) (fun e0=>?_)⟩
 ·
  refine ⟨by show 12 <= sizeLine;decide,fun l hl=>?_⟩
  have k2:Keep [] H1 (upd H1 l (.lst (someN.map V.str))):=Keep.new hl
  generalize hH2:upd H1 l (.lst (someN.map V.str))=H2 at k2
  have h2:H2 l=some (.lst (someN.map V.str)):=by rw [<- hH2];exact upd_same
  have g0:0 <= sh % 12:=Int.emod_nonneg _ (by decide)
  refine ⟨_,rfl,_,rfl,_,_,rfl,rfl,by show (0:Int) < 12;decide,_,rfl,l,_,rfl,.of h2,fun u hu=>?_⟩
  rw [cut_from V.str someN g0]
  have k3:Keep [] H2 (upd H2 u (.lst ((someN.drop (sh % 12).toNat).map V.str))):=Keep.new hu
  refine ⟨_,rfl,_,rfl,_,_,rfl,rfl,by show (0:Int) < 12;decide,_,rfl,l,_,rfl,.of (k3 _ _ (by simp) h2),fun u2 hu2=>?_⟩
  rw [cut_to V.str someN g0]
  obtain ⟨_,u12⟩:=upd_none hu2
  refine ⟨u,u2,_,_,rfl,rfl,by rw [upd_ne u12.symm,upd_same],upd_same,by rw [List.length_map,List.length_map,List.length_drop,List.length_take,sizeLine_eq];have:someN.length=12:=rfl;omega,fun u3 hu3=>?_⟩
  rw [<- List.map_append]
  refine ⟨_,rfl,m,rfl,u3,_,rfl,.of upd_same,fun r hr'=>?_⟩
  rw [cut_to V.str _ m0]
  have k4:Keep [] H1 (upd (upd (upd H2 u (.lst ((someN.drop (sh % 12).toNat).map V.str))) u2 (.lst ((someN.take (sh % 12).toNat).map V.str))) u3 (.lst ((someN.drop (sh % 12).toNat ++ someN.take (sh % 12).toNat).map V.str))):=(k2.trans k3).trans ((Keep.new hu2).trans (Keep.new hu3))
  have n1:H1 r=none:=k4.none (by simp) hr'
  have pr:r ≠ p:=s1.ne n1
  refine q r _ _ (k1.none (by simp [pr]) n1) upd_same ?_ ?_ ?_ (k1.trans ((k4.trans (Keep.new hr')).mono (by simp))) ((s1.on k4).on (Keep.new hr'))
  ·rw [List.length_take,(rot_perm _ _).length_eq]
   have:someN.length=12:=rfl
   omega
  ·intro z hz
   exact some_good z ((rot_perm _ _).mem_iff.mp (List.mem_of_mem_take hz))
  ·exact ((rot_perm _ _).nodup_iff.mpr some_nd).sublist (List.take_sublist _ _)
 refine ⟨_,rfl,p,7,rfl,s1,by decide,by decide,fun stem H2 lows lens k2 s2=>?_⟩
 obtain ⟨x,y,z,hp2⟩:=s2
 have ls:stem.length <= 7:=by omega
 refine ⟨_,rfl,_,rfl,_,_,rfl,⟨by rw [sizeLine_eq];omega,rfl⟩,_,_,rfl,rfl,p,x,y,z,_,rfl,hp2,by omega,by omega,fun at' x1 z1 t0 t1=>?_⟩
 have k3:Keep [p] H2 (upd H2 p (.lst [.int x1,.int y,.int z1])):=Keep.at (by simp)
 generalize hH3:upd H2 p (.lst [.int x1,.int y,.int z1])=H3 at k3
 have s3:Src H3 p:=⟨x1,y,z1,by rw [<- hH3];exact upd_same⟩
 have k03:=(k1.trans k2).trans k3
 refine ⟨_,rfl,rfl,_,rfl,ite2 (fun e1=>?_) (fun e1=>?_)⟩
 ·
  refine ⟨_,rfl,m,rfl,by omega,by omega,fun acc ha=>?_⟩
  have pa:acc ≠ p:=s3.ne ha
  have na:H acc=none:=k03.none (by simp [pa]) ha
  have cl:=cut_lens (x:=stem) t0 (by omega)
  refine lc_range0 (by rw [sizeLine_eq];omega) (fun i ys τ H4=>∃ (ws:List Str) (k:Option V),τ=k :: [some (.str stem),some (.str abc),some (.int at'),some (.int sh)]/\ys=ws.map V.str/\ws.length=i/\(∀ z ∈ ws,GoodN z)/\ws.Nodup/\(∀ z ∈ ws,∃ k,k < i/\z=Txt.slice stem none (some at') ++ (⟨#[chN sh k]⟩:Str) ++ Txt.slice stem (some at') none)/\Keep [acc] H3 H4/\H4 acc=some (.lst ys)) ?_ ?_ ?_ ?_
  ·exact ⟨[],none,rfl,rfl,rfl,(fun z hz=>by cases hz),List.nodup_nil,(fun z hz=>by cases hz),Keep.at (by simp),upd_same⟩
  ·rintro i ys τ H4 ⟨ws,k,rfl,rfl,hl,_,_,_,_,h4⟩
   exact ⟨h4,by rw [List.length_map];omega⟩
  ·rintro i ys τ H4 hi ⟨ws,k,rfl,rfl,hl,gw,nw,tw,kp,h4⟩
   obtain ⟨ec,mc⟩:=chN_at sh i
   refine ⟨_,rfl,_,rfl,at',rfl,stem,rfl,by rw [sizeLine_eq];omega,_,rfl,_,rfl,_,rfl,_,_,rfl,rfl,?_,_,_,rfl,rfl,_,_,rfl,rfl,by show (0:Int) < 26;decide,_,_,chN sh i,rfl,rfl,by decide,ec,_,_,rfl,rfl,?_,_,rfl,_,rfl,at',rfl,stem,rfl,by rw [sizeLine_eq];omega,_,_,rfl,rfl,?_,h4,ws ++ [Txt.slice stem none (some at') ++ (⟨#[chN sh i]⟩:Str) ++ Txt.slice stem (some at') none],_,rfl,by simp,by simp [hl],?_,?_,?_,kp.trans (Keep.at (by simp)),upd_same⟩
   ·exact .inl ⟨by decide,by decide⟩
   ·have:=Txt.slice_le stem none (some at')
    rw [sizeLine_eq];show _ + 1 <= _;omega
   ·rw [len_app,sizeLine_eq];show _ + 1 + _ <= _;omega
   ·intro z hz
    rcases List.mem_append.mp hz with z1 | z1
    ·exact gw z z1
    ·rw [List.mem_singleton.mp z1]
     have el:(Txt.slice stem none (some at') ++ (⟨#[chN sh i]⟩:Str) ++ Txt.slice stem (some at') none).length=stem.length + 1:=by rw [len_app,len_app];show _ + 1 + _=_;omega
     exact ⟨name_of (low_app (low_app (low_slice lows _ _) (low_one mc)) (low_slice lows _ _)) (by omega) (by omega),by omega⟩
   ·refine snoc_nd nw fun hm=>?_
    obtain ⟨k',hk,e⟩:=tw _ hm
    have:=chN_inj (by omega) (by omega) (mid_inj e)
    omega
   ·intro z hz
    rcases List.mem_append.mp hz with z1 | z1
    ·obtain ⟨k',hk,e⟩:=tw z z1
     exact ⟨k',by omega,e⟩
    ·exact ⟨i,by omega,List.mem_singleton.mp z1⟩
  ·rintro ys τ H4 ⟨ws,k,rfl,rfl,hl,gw,nw,tw,kp,h4⟩
   obtain ⟨x3,y3,z3,e3⟩:=id s3
   exact q acc ws H4 na h4 hl gw nw (k03.trans ((kp.drop ha).mono (by simp))) ⟨x3,y3,z3,kp _ _ (by simp [Ne.symm pa]) e3⟩
 ·
  refine ⟨_,rfl,m,rfl,by omega,by omega,fun acc ha=>?_⟩
  have pa:acc ≠ p:=s3.ne ha
  have na:H acc=none:=k03.none (by simp [pa]) ha
  refine lc_range0 (by rw [sizeLine_eq];omega) (fun i ys τ H4=>∃ (ws:List Str) (k:Option V),τ=k :: [some (.ref p),some (.str abc),some (.int sh)]/\ys=ws.map V.str/\ws.length=i/\(∀ z ∈ ws,GoodN z)/\ws.Nodup/\(∀ z ∈ ws,∃ k,k < i/\∃ u:Str,z=u ++ (⟨#[chN sh k]⟩:Str))/\Keep [acc,p] H3 H4/\Src H4 p/\H4 acc=some (.lst ys)) ?_ ?_ ?_ ?_
  ·exact ⟨[],none,rfl,rfl,rfl,(fun z hz=>by cases hz),List.nodup_nil,(fun z hz=>by cases hz),Keep.at (by simp),s3.on (Keep.new ha),upd_same⟩
  ·rintro i ys τ H4 ⟨ws,k,rfl,rfl,hl,_,_,_,_,_,h4⟩
   exact ⟨h4,by rw [List.length_map];omega⟩
  ·rintro i ys τ H4 hi ⟨ws,k,rfl,rfl,hl,gw,nw,tw,kp,s4,h4⟩
   obtain ⟨ec,mc⟩:=chN_at sh i
   refine ⟨_,rfl,p,7,rfl,s4,by decide,by decide,fun u H5 lo le k5 s5=>?_⟩
   have h5:=k5 _ _ (by simp [pa]) h4
   refine ⟨_,rfl,_,rfl,_,rfl,_,_,rfl,rfl,?_,_,_,rfl,rfl,_,_,rfl,rfl,by show (0:Int) < 26;decide,_,_,chN sh i,rfl,rfl,by decide,ec,_,_,rfl,rfl,?_,h5,ws ++ [u ++ (⟨#[chN sh i]⟩:Str)],_,rfl,by simp,by simp [hl],?_,?_,?_,(kp.trans (k5.mono (by simp))).trans (Keep.at (by simp)),?_,upd_same⟩
   ·exact .inl ⟨by decide,by decide⟩
   ·rw [sizeLine_eq];show _ + 1 <= _;omega
   ·intro z hz
    rcases List.mem_append.mp hz with z1 | z1
    ·exact gw z z1
    ·rw [List.mem_singleton.mp z1]
     have el:(u ++ (⟨#[chN sh i]⟩:Str)).length=u.length + 1:=by rw [len_app];rfl
     exact ⟨name_of (low_app lo (low_one mc)) (by omega) (by omega),by omega⟩
   ·refine snoc_nd nw fun hm=>?_
    obtain ⟨k',hk,u',e⟩:=tw _ hm
    have:=chN_inj (by omega) (by omega) (end_inj e)
    omega
   ·intro z hz
    rcases List.mem_append.mp hz with z1 | z1
    ·obtain ⟨k',hk,e⟩:=tw z z1
     exact ⟨k',by omega,e⟩
    ·exact ⟨i,by omega,u,List.mem_singleton.mp z1⟩
   ·obtain ⟨x5,y5,z5,e5⟩:=s5
    exact ⟨x5,y5,z5,by rw [upd_ne (Ne.symm pa)];exact e5⟩
  ·rintro ys τ H4 ⟨ws,k,rfl,rfl,hl,gw,nw,tw,kp,s4,h4⟩
   exact q acc ws H4 na h4 hl gw nw (k03.trans (kp.drop ha)) s4
end
def Grown (zs:List Str) (ps:List (Str × Str)):Prop:=∀ (j:Nat) (t:Str × Str),ps[j]?=some t->∃ (o:Nat) (a b:Str),o <= j/\zs[j + 1]?=some a/\zs[o]?=some b/\(t=(a,b) \/ t=(b,a))
theorem grown_conn {zs:List Str} {ps:List (Str × Str)} (h:Grown zs ps) (hl:ps.length + 1=zs.length):Conn zs ps:=by
 intro P z0 hz p0 each
 obtain ⟨c,hc⟩:∃ c,zs[0]?=some c:=⟨zs[0],List.getElem?_eq_getElem (by omega)⟩
 have all:∀ (n j:Nat) (a:Str),j <= n->zs[j]?=some a->(P a ↔ P c):=by
  intro n
  induction n with
  | zero=>
   intro j a hj ha
   have:j=0:=by omega
   subst this
   rw [ha] at hc;cases hc;exact Iff.rfl
  | succ n ih=>
   intro j a hj ha
   cases j with
   | zero=>exact ih 0 a (Nat.zero_le _) ha
   | succ j=>
    have jl:j + 1 < zs.length:=(List.getElem?_eq_some_iff.mp ha).1
    have jp:j < ps.length:=by omega
    obtain ⟨o,a',b,ho,e1,e2,e3⟩:=h j _ (List.getElem?_eq_getElem jp)
    rw [ha] at e1;cases e1
    have eb:=ih o b (by omega) e2
    have et:=each _ (List.getElem_mem jp)
    rcases e3 with e3 | e3 <;> rw [e3] at et
    ·exact et.trans eb
    ·exact et.symm.trans eb
 intro z hz'
 obtain ⟨i,hi⟩:=List.getElem?_of_mem hz
 obtain ⟨j,hj⟩:=List.getElem?_of_mem hz'
 exact (all j j z (Nat.le_refl _) hj).mpr ((all i i z0 (Nat.le_refl _) hi).mp p0)
theorem grown_ties {zs:List Str} {ps:List (Str × Str)} (h:Grown zs ps) (nd:zs.Nodup):∀ t ∈ ps,TieOk zs t:=by
 intro t ht
 obtain ⟨j,hj⟩:=List.getElem?_of_mem ht
 obtain ⟨o,a,b,ho,e1,e2,e3⟩:=h j t hj
 have ne:a ≠ b:=fun e=>by
  subst e
  have:=(List.getElem?_inj (List.getElem?_eq_some_iff.mp e1).1 nd).mp (e1.trans e2.symm)
  omega
 have ma:=List.mem_of_getElem? e1
 have mb:=List.mem_of_getElem? e2
 rcases e3 with rfl | rfl
 ·exact ⟨ma,mb,ne⟩
 ·exact ⟨mb,ma,ne.symm⟩
theorem grown_snoc {zs:List Str} {ps:List (Str × Str)} (h:Grown zs ps) {t:Str × Str} {o:Nat} {a b:Str} (ho:o <= ps.length) (e1:zs[ps.length + 1]?=some a) (e2:zs[o]?=some b) (e3:t=(a,b) \/ t=(b,a)):Grown zs (ps ++ [t]):=by
 intro j u hu
 by_cases jl:j < ps.length
 ·rw [List.getElem?_append_left jl] at hu
  exact h j u hu
 ·rw [List.getElem?_append_right (by omega)] at hu
  have j0:j - ps.length=0:=by
   cases e:j - ps.length with
   | zero=>rfl
   | succ k=>rw [e] at hu;simp at hu
  rw [j0] at hu
  have e:t=u:=by simpa using hu
  subst e
  have j':j=ps.length:=by omega
  subst j'
  exact ⟨o,a,b,ho,e1,e2,e3⟩
theorem at_str {zs:List Str} {o:Nat} {b:Str} (h:zs[o]?=some b):atI (zs.map V.str) (o:Int)=some (.str b):=by
 have ol:o < zs.length:=(List.getElem?_eq_some_iff.mp h).1
 obtain ⟨v,e1,e2⟩:=atI_in (xs:=zs.map V.str) (i:=(o:Int)) (by omega) (by rw [List.length_map];omega)
 rw [e1]
 rw [Int.toNat_natCast,List.getElem?_map,h] at e2
 exact e2.symm
abbrev sTree:Stmt:=top 36
section
variable {P:Program} {w:World} {K:PySem.W.Frag} {mg:Str->Option Value} {base:Heap} {C:Addr}
theorem scTree:FnScope ["_law_source","_law_most","_law_way","_law_names_here","_law_ties","_law_k","_law_other"] ["_law_source","_law_most"] (defScope sTree):=⟨rfl,rfl,rfl,by decide +kernel,rfl,by decide +kernel,by decide +kernel⟩
def spTree:Sp:=fun vs H Q _=>∃ (p:Addr) (m:Int),vs=[.ref p,.int m]/\Src H p/\1 <= m/\m <= 12 /\
 ∀ (t nh th:Addr) (zs:List Str) (ps:List (Str × Str)) (H':Hp),H t=none->H nh=none->H th=none->H' t=some (.tup [.ref nh,.ref th])->H' nh=some (.lst (zs.map V.str))->Rows H' th (ps.map pairV)->(∀ z ∈ zs,GoodN z)->zs.Nodup->1 <= zs.length->zs.length <= 12->ps.length + 1=zs.length->(∀ p ∈ ps,TieOk zs p)->Conn zs ps->Grown zs ps->Keep [p] H H'->Src H' p->Q (.ref t) H'
theorem okTree (G:FunG K mg "_law_tree" sTree ["_law_source","_law_most"]) (CN:Cal P w K mg base CX0 2 "_law_next" ["_law_source","_law_many"] spNext) (CNM:Cal P w K mg base CX0 4 "_law_names" ["_law_source","_law_many"] spNames) (CSH:Cal P w K mg base CX0 3 "_law_shuffled" ["_law_source","_law_names_here"] spShuf) (b_range:Blt mg "range") (b_len:Blt mg "len") :
  Cal P w K mg base CX0 5 "_law_tree" ["_law_source","_law_most"] spTree:=by
 refine G.ok scTree (fun vs H Q E h=>by obtain ⟨p,m,rfl,_⟩:=h;rfl) (fun f cdv A outer s0 H vs Q E hr h=>?_)
 obtain ⟨p,m,rfl,⟨a,b,c,hp⟩,m0,m1,q⟩:=h
 have hr4:Room 4 _:=hr
 have hr3:Room 3 _:=hr.mono (by decide)
 have hr2:Room 2 _:=hr.mono (by decide)
 refine ⟨_,(pss_cons (ps_set (i:=2) scTree.nd rfl (Or.inl rfl) (pe_cal CN hr2 (pa_cons (pv 0) (pa_cons pe_int pa_nil))))
   (pss_cons (ps_set (i:=3) scTree.nd rfl (Or.inl rfl) (pe_cal CSH hr3 (pa_cons (pv 0) (pa_cons (pe_cal CNM hr4 (pa_cons (pv 0) (pa_cons (pe_op op_add pe_int (pe_cal CN hr2 (pa_cons (pv 0) (pa_cons (pv 1) pa_nil)))) pa_nil))) pa_nil))))
   (pss_cons (ps_set (i:=4) scTree.nd rfl (Or.inl rfl) (pe_lst pa_nil))
   (pss_cons (ps_for PassesOwn.never rfl (pi_range2 rfl b_range.no (pa_cons pe_int (pa_cons (pe_blt call_len b_len bo_len (pa_cons (pv 3) pa_nil)) pa_nil))) (pg_name (i:=5) scTree.nd rfl (Or.inl rfl)) (pss_cons (ps_set (i:=6) scTree.nd rfl (Or.inl rfl) (pe_ix ix_lstH (pv 3) (pe_ix ix_lstH (pe_lst (pa_cons (pe_op op_sub (pv 5) pe_int) (pa_cons pe_int (pa_cons (pe_cal CN hr2 (pa_cons (pv 0) (pa_cons (pv 5) pa_nil))) (pa_cons (pe_cal CN hr2 (pa_cons (pv 0) (pa_cons (pv 5) pa_nil))) pa_nil))))) (pv 2) (fun _ _=>rfl)) (fun _ _=>rfl)))
   (pss_one (ps_expr (pe_bm PySem.F.plainAttrs_list PySem.F.slot_list_append PySem.F.type_list_append mt_append (pv 4) (pa_cons (pe_ix ix_lstH (pe_lst (pa_cons (pe_tup (pa_cons (pe_ix ix_lstH (pv 3) (pv 5) (fun _ _=>rfl)) (pa_cons (pv 6) pa_nil))) (pa_cons (pe_tup (pa_cons (pv 6) (pa_cons (pe_ix ix_lstH (pv 3) (pv 5) (fun _ _=>rfl)) pa_nil))) pa_nil))) (pe_cal CN hr2 (pa_cons (pv 0) (pa_cons pe_int pa_nil))) (fun _ _=>rfl)) pa_nil))))))
   (pss_one (ps_ret (pe_tup (pa_cons (pv 3) (pa_cons (pv 4) pa_nil))))))))),?_⟩
 refine ⟨_,rfl,p,a,b,c,4,rfl,hp,by decide,by decide,fun wy a1 c1 w0 w1=>?_⟩
 refine ⟨_,rfl,_,rfl,_,rfl,_,rfl,p,a1,b,c1,m,rfl,upd_same,by omega,by omega,fun v a2 c2 v0 v1=>?_⟩
 rw [upd_upd]
 have k1:Keep [p] H (upd H p (.lst [.int a2,.int b,.int c2])):=Keep.at (by simp)
 generalize hH1:upd H p (.lst [.int a2,.int b,.int c2])=H1 at k1
 have s1:Src H1 p:=⟨a2,b,c2,by rw [<- hH1];exact upd_same⟩
 refine ⟨_,_,rfl,rfl,p,_,rfl,s1,by omega,by omega,fun r zs0 H2 hr0 h2 l2 g2 n2 k2 s2=>?_⟩
 refine ⟨p,r,zs0,rfl,s2,h2,by omega,fun nh zs H3 hnh pz h3 k3 s3=>?_⟩
 have lz:zs.length=zs0.length:=pz.length_eq
 have gz:∀ z ∈ zs,GoodN z:=fun z hz=>g2 z (pz.mem_iff.mp hz)
 have nd:zs.Nodup:=pz.nodup_iff.mpr n2
 have k03:Keep [p] H H3:=(k1.trans k2).trans k3
 have pn:nh ≠ p:=s2.ne hnh
 have nnh:H nh=none:=(k1.trans k2).none (by simp [pn]) hnh
 refine ⟨Nat.zero_le _,fun th hth=>?_⟩
 have pth:th ≠ p:=s3.ne hth
 have nth:H th=none:=k03.none (by simp [pth]) hth
 have hn:nh ≠ th:=ne_of_none h3 hth
 have k4:Keep [] H3 (upd H3 th (.lst [])):=Keep.new hth
 have h44:=k4 _ _ (by simp) h3
 refine ⟨_,rfl,_,_,rfl,.inl ⟨_,.of h44,rfl⟩,1,_,rfl,by rw [List.length_map];omega,?_⟩
 refine for_range (fun i σ H4=>∃ (ps:List (Str × Str)) (qs:List Addr) (v5 v6:Option V),σ=[some (.ref p),some (.int m),some (.int wy),some (.ref nh),some (.ref th),v5,v6]/\ps.length=i/\Grown zs ps/\H4 th=some (.lst (qs.map V.ref))/\Paired (fun q r=>H4 q=some (.tup r)) qs (ps.map pairV)/\Src H4 p/\Keep [th,p] H3 H4) ?_ ?_ ?_
 ·exact ⟨[],[],_,_,rfl,rfl,(fun j t e=>by simp at e),upd_same,.nil,s3.on k4,Keep.at (by simp)⟩
 ·rintro i σ H4 hi ⟨ps,qs,v5,v6,rfl,hl,gr,ht,pq,⟨x,y,z,hs⟩,kp⟩
  rw [List.length_map] at hi
  have h4:=kp _ _ (by simp [hn,pn]) h3
  have il:i + 1 < zs.length:=by omega
  refine ⟨_,rfl,_,rfl,_,_,rfl,rfl,_,rfl,_,rfl,p,x,y,z,_,rfl,hs,by omega,by omega,fun u1 x1 z1 u10 u11=>?_⟩
  refine ⟨_,rfl,_,rfl,p,x1,y,z1,_,rfl,upd_same,by omega,by omega,fun u2 x2 z2 u20 u21=>⟨by show 4 <= sizeLine;decide,fun dl hdl=>?_⟩⟩
  rw [upd_upd] at hdl ⊢
  have k5:Keep [p] H4 (upd H4 p (.lst [.int x2,.int y,.int z2])):=Keep.at (by simp)
  generalize hH5:upd H4 p (.lst [.int x2,.int y,.int z2])=H5 at k5 hdl ⊢
  have s5:Src H5 p:=⟨x2,y,z2,by rw [<- hH5];exact upd_same⟩
  obtain ⟨o,oi,eo⟩:∃ o:Nat,o <= i/\atI [V.int (1 + (i:Int) - 1),.int 0,.int u1,.int u2] wy=some (.int (o:Int)):=by
   rcases (show wy=0 \/ wy=1 \/ wy=2 \/ wy=3 by omega) with rfl | rfl | rfl | rfl
   ·exact ⟨i,Nat.le_refl _,by show some (V.int (1 + (i:Int) - 1))=_;rw [show 1 + (i:Int) - 1=i by omega]⟩
   ·exact ⟨0,Nat.zero_le _,rfl⟩
   ·exact ⟨u1.toNat,by omega,by show some (V.int u1)=_;rw [show ((u1.toNat:Nat):Int)=u1 by omega]⟩
   ·exact ⟨u2.toNat,by omega,by show some (V.int u2)=_;rw [show ((u2.toNat:Nat):Int)=u2 by omega]⟩
  have eb:zs[o]?=some (zs[o]'(by omega)):=List.getElem?_eq_getElem (by omega)
  have ea:zs[i + 1]?=some (zs[i + 1]'il):=List.getElem?_eq_getElem il
  generalize zs[o]'(by omega)=zb at eb
  generalize zs[i + 1]'il=za at ea
  have k6:Keep [] H5 (upd H5 dl (.lst [.int (1 + (i:Int) - 1),.int 0,.int u1,.int u2])):=Keep.new hdl
  refine ⟨_,rfl,dl,_,wy,_,rfl,rfl,upd_same,eo,nh,_,o,.str zb,rfl,rfl,?_,at_str eb,?_⟩
  ·exact k6 _ _ (by simp) (k5 _ _ (by simp [pn]) h4)
  generalize upd H5 dl (.lst [.int (1 + (i:Int) - 1),.int 0,.int u1,.int u2])=H6 at k6
  have k46:Keep [p] H4 H6:=k5.trans (k6.mono (by simp))
  have h6:=k46 _ _ (by simp [pn]) h4
  have s6:=s5.on k6
  have ht6:=k46 _ _ (by simp [pth]) ht
  have ek:atI (zs.map V.str) (1 + (i:Int))=some (.str za):=by rw [show 1 + (i:Int)=((i + 1:Nat):Int) by omega];exact at_str ea
  refine ⟨_,rfl,Or.inl ⟨rfl,_,.of ht6⟩,_,rfl,_,rfl,nh,_,_,.str za,rfl,rfl,h6,ek,_,rfl,by show 2 <= sizeLine;decide,fun t1 ht1=>?_⟩
  have k7:Keep [] H6 (upd H6 t1 (.tup [.str za,.str zb])):=Keep.new ht1
  generalize hH7:upd H6 t1 (.tup [.str za,.str zb])=H7 at k7
  have e7:H7 t1=some (.tup [.str za,.str zb]):=by rw [<- hH7];exact upd_same
  refine ⟨_,rfl,_,rfl,_,rfl,nh,_,_,.str za,rfl,rfl,k7 _ _ (by simp) h6,ek,by show 2 <= sizeLine;decide,fun t2 ht2=>⟨by show 2 <= sizeLine;decide,fun dl2 hdl2=>?_⟩⟩
  have k8:Keep [] H7 (upd H7 t2 (.tup [.str zb,.str za])):=Keep.new ht2
  generalize hH8:upd H7 t2 (.tup [.str zb,.str za])=H8 at k8 hdl2 ⊢
  have e8:H8 t2=some (.tup [.str zb,.str za]):=by rw [<- hH8];exact upd_same
  have k9:Keep [] H8 (upd H8 dl2 (.lst [.ref t1,.ref t2])):=Keep.new hdl2
  generalize hH9:upd H8 dl2 (.lst [.ref t1,.ref t2])=H9 at k9 ⊢
  have e9:H9 dl2=some (.lst [.ref t1,.ref t2]):=by rw [<- hH9];exact upd_same
  have k69:=k7.trans (k8.trans k9)
  obtain ⟨x9,y9,z9,hs9⟩:=s6.on k69
  refine ⟨_,rfl,p,x9,y9,z9,2,rfl,hs9,by decide,by decide,fun v x10 z10 v0 v1=>?_⟩
  have k10:Keep [p] H9 (upd H9 p (.lst [.int x10,.int y9,.int z10])):=Keep.at (by simp)
  generalize hH10:upd H9 p (.lst [.int x10,.int y9,.int z10])=H10 at k10
  have s10:H10 p=some (.lst [.int x10,.int y9,.int z10]):=by rw [<- hH10];exact upd_same
  have pd:dl2 ≠ p:=((s6.on k7).on k8).ne hdl2
  have pt1:t1 ≠ p:=s6.ne ht1
  have pt2:t2 ≠ p:=(s6.on k7).ne ht2
  have k4A:Keep [p] H4 H10:=(k46.trans (k69.mono (by simp))).trans k10
  have htA:=k4A _ _ (by simp [pth]) ht
  have notT:∀ u ∈ [p],∀ xs,H4 u ≠ some (.tup xs):=fun u hu xs e=>by rw [List.mem_singleton.mp hu,hs] at e;cases e
  have pqA:=paired_far k4A notT pq
  have lq:=paired_len pq
  rw [List.length_map] at lq
  have fin:∀ (t:Addr) (pr:Str × Str),H10 t=some (.tup (pairV pr))->(pr=(za,zb) \/ pr=(zb,za))->∃ (ps':List (Str × Str)) (qs':List Addr) (v5 v6:Option V),[some (.ref p),some (.int m),some (.int wy),some (.ref nh),some (.ref th),some (.int (1 + (i:Int))),some (.str zb)]=[some (.ref p),some (.int m),some (.int wy),some (.ref nh),some (.ref th),v5,v6]/\ps'.length=i + 1/\Grown zs ps'/\upd H10 th (.lst (qs.map V.ref ++ [.ref t])) th=some (.lst (qs'.map V.ref))/\Paired (fun q r=>upd H10 th (.lst (qs.map V.ref ++ [.ref t])) q=some (.tup r)) qs' (ps'.map pairV)/\Src (upd H10 th (.lst (qs.map V.ref ++ [.ref t]))) p/\Keep [th,p] H3 (upd H10 th (.lst (qs.map V.ref ++ [.ref t]))):=by
   intro t pr et ep
   have kf:Keep [th] H10 (upd H10 th (.lst (qs.map V.ref ++ [.ref t]))):=Keep.at (by simp)
   have tt:t ≠ th:=fun e=>by rw [e,htA] at et;cases et
   refine ⟨ps ++ [pr],qs ++ [t],_,_,rfl,by simp [hl],grown_snoc gr (by omega) (by rw [hl];exact ea) eb ep,by rw [upd_same,List.map_append];rfl,?_,⟨x10,y9,z10,by rw [upd_ne pth.symm];exact s10⟩,?_⟩
   ·rw [List.map_append]
    refine paired_snoc (paired_far kf (fun u hu xs e=>by rw [List.mem_singleton.mp hu,htA] at e;cases e) pqA) ?_
    exact kf _ _ (by simp [tt]) et
   ·exact (kp.trans (k4A.mono (by simp))).trans (kf.mono (by simp))
  rcases (show v=0 \/ v=1 by omega) with rfl | rfl
  ·refine ⟨dl2,_,0,_,rfl,rfl,k10 _ _ (by simp [pd]) e9,rfl,th,_,_,rfl,rfl,htA,by rw [List.length_map,sizeLine_eq];omega,?_⟩
   exact fin t1 (za,zb) (k10 _ _ (by simp [pt1]) ((k8.trans k9) _ _ (by simp) e7)) (.inl rfl)
  ·refine ⟨dl2,_,1,_,rfl,rfl,k10 _ _ (by simp [pd]) e9,rfl,th,_,_,rfl,rfl,htA,by rw [List.length_map,sizeLine_eq];omega,?_⟩
   exact fin t2 (zb,za) (k10 _ _ (by simp [pt2]) (k9 _ _ (by simp) e8)) (.inr rfl)
 ·rintro σ H4 ⟨ps,qs,v5,v6,rfl,hl,gr,ht,pq,s4,kp⟩
  rw [List.length_map] at hl
  have h4:=kp _ _ (by simp [hn,pn]) h3
  refine ⟨_,rfl,_,rfl,by show 2 <= sizeLine;decide,fun t htn=>?_⟩
  have kt:Keep [] H4 (upd H4 t (.tup [.ref nh,.ref th])):=Keep.new htn
  have pt:t ≠ p:=s4.ne htn
  have tth:t ≠ th:=fun e=>by rw [e,ht] at htn;cases htn
  have k04:Keep [th,p] H H4:=(k03.mono (by simp)).trans kp
  have lp:ps.length + 1=zs.length:=by omega
  refine q t nh th zs ps _ (k04.none (by simp [pt,tth]) htn) nnh nth upd_same (kt _ _ (by simp) h4) ⟨qs,kt _ _ (by simp) ht,paired_far kt (fun u hu=>by cases hu) pq⟩ gz nd (by omega) (by omega) lp (grown_ties gr nd) (grown_conn gr lp) gr ?_ (s4.on kt)
  exact (k04.drop nth).trans (kt.mono (by simp))
end
end K03
namespace L2
open PySem PySem.Spec PyProof.Rows
section
variable {X:Cx} {pins:List (Addr × Obj)} {σ:List (Option V)} {H:Hp} {s:Shared}
theorem Inv.lose1 {h':Heap} {m:Str->Option Value} {u0:Option Value} {i:Nat} {n:Str} (I:Inv X pins σ H s) (hN:X.N.Nodup) (hi:X.N[i]?=some n) (hlk:∀ (i:Nat) (x:Str) (v:V),X.N[i]?=some x->σ[i]?=some (some v)->Vis X.env.scope x->∃ u,RelV v u/\Look X.env s.heap m x u)
  (sb:Heap.SameBut X.env.locals s.heap h') (hn:h'.Ns X.env.locals (fun x=>if x=n then u0 else m x)):Inv X pins (σ.set i none) H { s with heap:=h' }:=by
 have same:∀ b,b ≠ X.env.locals->h'.get? b=s.heap.get? b:=fun b hb=>sb.2 b hb
 have neL:∀ b o,X.s₀.heap.get? b=some o->b ≠ X.env.locals:=fun b o q=>Nat.ne_of_lt (Nat.lt_of_lt_of_le (Heap.lt_size q) I.ok.above)
 refine ⟨I.ok,I.os,I.bare,⟨fun b o q n nb nx=>(same b (neL b o q)).trans (I.base.keep b o q n nb nx),fun b o q n hb nx=>?_,I.base.free,fun b o q nx=>?_,I.base.tups,I.base.frzs,I.base.tbls⟩,⟨_,hn,fun j x v e1 e2 vis=>?_⟩,fun x c e=>?_,I.free,I.freeC,fun p hp=>?_,fun b o q=>?_,by rw [List.length_set];exact I.len⟩
 ·obtain ⟨sl,z⟩:=I.base.slot b o q n hb nx
  exact ⟨sl,(same b (neL b o q)).trans z⟩
 ·obtain ⟨o',z⟩:=I.base.there b o q nx
  exact ⟨o',(same b (neL b o q)).trans z⟩
 ·by_cases ji:i=j
  ·subst ji
   rw [List.getElem?_set] at e2
   simp only [if_true] at e2
   split at e2 <;> cases e2
  ·rw [List.getElem?_set_ne ji] at e2
   have xn:x ≠ n:=fun e=>by
    subst e
    have:=(List.getElem?_inj (List.getElem?_eq_some_iff.mp hi).1 hN).mp (hi.trans e1.symm)
    exact ji this
   obtain ⟨u,r,lk⟩:=hlk j x v e1 e2 vis
   refine ⟨u,r,?_⟩
   rcases lk with ⟨k1,k2⟩ | ⟨k1,c,k2,k3⟩
   ·exact .inl ⟨k1,by show (if x=n then u0 else m x)=some u;rw [if_neg xn];exact k2⟩
   ·obtain ⟨o,q,d⟩:=k3
    exact .inr ⟨k1,c,k2,o,(same c (I.cne x c k2)).trans q,d⟩
 ·obtain ⟨v,o,q,d⟩:=I.cell x c e
  exact ⟨v,o,(same c (I.cne x c e)).trans q,d⟩
 ·obtain ⟨e,n,ne,nf,d⟩:=I.pin p hp
  exact ⟨(same _ ne).trans e,n,ne,nf,d⟩
 ·refine (I.hok b o q).stay (fun c u hc z=>(same c fun y=>?_).trans z) (fun _ z=>z) fun _ _ z=>z
  have f0:=I.free
  rcases hc with r | r
  ·rw [<- r,y,f0] at q;cases q
  ·rw [y,f0] at r;cases r
end
def tTryN (Nn:Nat) (ci:Addr->Prop) (n:Nat) (tb:XK->TS) (th:Addr->TS):TS:=fun D σ H=>
 tb (fun cls _ H'=>∃ C,cls=.ref C/\ci C/\∀ (a:Addr) (σ':St),σ'.length=Nn->H' a=none->th a { nx:=fun σ' H'=>D.nx ((σ'.set n (some .non)).set n none) H',rt:=D.rt } (σ'.set n (some (.ref a))) (upd H' a (excO C a))) D σ H
theorem ps_tryN {X:Cx} {body:List Stmt} {b0:Stmt} {suite:List Stmt} {T n:Str} {tp hp pos:Pos} {i:Nat} {DC:Addr} {tb:XK->TS} {th:Addr->TS}
  (hm:X.mg T=some (.ref DC)) (hN:X.N.Nodup) (hi:X.N[i]?=some n) (hl:X.env.kindOf n=some .local)
  (hb:∀ (pn':List (Addr × Obj)) (xe':Value->Shared->Prop) (E1:XK),Passes (CXE X.prog X.w) (XB X pn' xe') E1->PSs (XB X pn' xe') body (tb E1))
  (hh:∀ (pn':List (Addr × Obj)) (a:Addr),PSs (XH X pn' a) (b0 :: suite) (th a)) (hg:Gl X T:=by rfl) (hstk:X.stack=X.env :: X.outer:=by rfl) (hfr:X.env.frame=some X.env.locals:=by rfl) (hk:X.env.scope.kind=.function:=by rfl) (hd:(T == ("__debug__" : Str))=false:=by decide) :
  PS X (.Try body [.ExceptHandler (some (.Name T tp)) (some n) (b0 :: suite) hp] [] [] pos) (tTryN X.N.length (fun C=>PySem.W.exmOne X.K (.ref C) (.ref DC)=some true) i tb th):=by
 intro pins s0 σ0 H0 D I0 h0
 refine wpAny_Try_except ?_
 have I1:=I0.toB (fun e s1=>∃ σ H s,Inv X pins σ H s/\CXE X.prog X.w X.stack H s (fun cls _ H'=>∃ C,cls=.ref C/\PySem.W.exmOne X.K (.ref C) (.ref DC)=some true/\∀ (a:Addr) (σ':St),σ'.length=X.N.length->H' a=none->th a { nx:=fun σ' H'=>D.nx ((σ'.set i (some .non)).set i none) H',rt:=D.rt } (σ'.set i (some (.ref a))) (upd H' a (excO C a))) e s1)
 have run:=hb _ _ _ (fun pins' σ H s e s' I z=>⟨σ,H,s,I.ofB,z⟩) [] s0 σ0 H0 D I1 h0
 refine wpAny_mono run (fun f s1 hs=>?_) fun e s1 hs=>?_
 ·cases f with
  | next=>
   obtain ⟨σ',H',I',q⟩:=hs
   exact wpAny_execs_nil ⟨σ',H',I'.ofB,q⟩
  | brk=>obtain ⟨σ',H',I',q⟩:=hs;exact ⟨σ',H',I'.ofB,q⟩
  | cont=>obtain ⟨σ',H',I',q⟩:=hs;exact ⟨σ',H',I'.ofB,q⟩
  | ret v=>obtain ⟨x,σ',H',I',r,q⟩:=hs;exact ⟨x,σ',H',I'.ofB,r,q⟩
 ·obtain ⟨σ,H,s,I,a,C,B,H',rfl,os,bare,u,hok,F,cov,cov2,cov3,C',eC,hex,hth⟩:=hs
  cases eC
  have Fs:=F
  rw [hstk] at Fs
  refine note_on (by rw [I.ok.frames,hstk]) hfr Fs fun h2 F2 u2=>?_
  refine land_on F2 fun h3 F3 u3=>?_
  have F3':Fly B X.stack a C .none h3:=by rw [hstk];exact F3
  obtain ⟨ha,I3⟩:=I.caught os bare u hok F cov cov2 cov3 F3' (u2.trans u3)
  obtain ⟨ob,cells,tb',ot,tcs,ge,gc,_⟩:=id F3.2.2.2
  have LT:PySem.W.Looks (model X.prog X.w) h3 (typeOf (.ref a)) (.ref C):=by
   have z:PySem.W.Looks (model X.prog X.w) h3 (typeOf (.ref a)) ob.cls:=(PySem.W.Looks.ld ge).andThen .now
   rw [gc.1] at z;exact z
  refine wpAny_handleBy_cons (codeAny_handlers_test ?_) (by intro z;cases z)
  refine ld_glob (I3.toH a) (show Gl (XH X (X.pn ++ pins) a) T from hg) hm ?_ hd
  refine PySem.W.exm_one (M:=model X.prog X.w) I3.kIn LT hex _ _ _ _ (fun _ _ z=>z) ?_
  refine codeAny_handlers_suite_as ?_
  refine land_on F3 fun h4 F4 u4=>?_
  have F4':Fly B X.stack a C .none h4:=by rw [hstk];exact F4
  obtain ⟨_,I4⟩:=I.caught os bare u hok F cov cov2 cov3 F4' ((u2.trans u3).trans u4)
  refine store_ok I4 hN hi (.inl hl) (v:=.ref a) rfl (fun s5 I5=>?_) (.inr hl)
  refine wpAny_mono (hh (X.pn ++ pins) a [] s5 _ _ _ (I5.toH a) (hth a σ I.len ha)) (fun f s6 hs6=>?_) fun _ _ z=>z.elim
  cases f with
  | next=>
   obtain ⟨σ6,H6,I6,q6⟩:=hs6
   have I6':Inv X pins σ6 H6 s6:=I4.ofH I6
   refine wpAny_bind (wpAny_bindName (store_ok I6' hN hi (.inl hl) (v:=.non) rfl (fun s7 I7=>?_) (.inr hl)))
   unfold unbindBehindTheSuite
   obtain ⟨m,hn,hlk⟩:=id I7.loc
   have hi':(σ6.set i (some V.non))[i]?=some (some V.non):=by
    rw [List.getElem?_set_self]
    rw [I6'.len];exact (List.getElem?_eq_some_iff.mp hi).1
   obtain ⟨v7,_,lk⟩:=hlk i n .non hi hi' (.inl hl)
   have hv:m n=some v7:=by
    rcases lk with ⟨_,z⟩ | ⟨z,_⟩
    ·exact z
    ·rcases z with z | z <;> (rw [hl] at z;cases z)
   refine wpAny_onRaise (wpAny_unbindName_local hl hn hv (by rw [hk];rfl) fun h8 w8 hn8 sb8=>?_)
   exact ⟨_,H6,I7.lose1 hN hi hlk sb8 hn8,q6⟩
  | brk=>obtain ⟨_,_,_,z⟩:=hs6;exact z.elim
  | cont=>obtain ⟨_,_,_,z⟩:=hs6;exact z.elim
  | ret v=>
   obtain ⟨x6,σ6,H6,I6,r6,q6⟩:=hs6
   have I6':Inv X pins σ6 H6 s6:=I4.ofH I6
   refine wpAny_bind (wpAny_bindName (store_ok I6' hN hi (.inl hl) (v:=.non) rfl (fun s7 I7=>?_) (.inr hl)))
   unfold unbindBehindTheSuite
   obtain ⟨m,hn,hlk⟩:=id I7.loc
   have hi':(σ6.set i (some V.non))[i]?=some (some V.non):=by
    rw [List.getElem?_set_self]
    rw [I6'.len];exact (List.getElem?_eq_some_iff.mp hi).1
   obtain ⟨v7,_,lk⟩:=hlk i n .non hi hi' (.inl hl)
   have hv:m n=some v7:=by
    rcases lk with ⟨_,z⟩ | ⟨z,_⟩
    ·exact z
    ·rcases z with z | z <;> (rw [hl] at z;cases z)
   refine wpAny_onRaise (wpAny_unbindName_local hl hn hv (by rw [hk];rfl) fun h8 w8 hn8 sb8=>?_)
   exact ⟨x6,_,H6,I7.lose sb8 hn8,r6,q6⟩
section
variable {X:Cx}
def rIsEs (K:PySem.W.Frag):List V->Hp->VK->Prop:=fun xs H Q=>∃ (a C p:Addr) (Ds:List Addr) (b:Bool),xs=[.ref a,.ref p]/\H a=some (excO C a)/\ExcK K C/\H p=some (.tup (Ds.map V.ref))/\PySem.W.kitAny K (.ref C) (Ds.map Value.ref)=some b/\Q (.bl b) H
theorem call_isEs:CallR X (.builtin "isinstance") (rIsEs X.K):=by
 intro pins s σ H xs us Q I r h
 obtain ⟨a,C,p,Ds,b,rfl,ha,k,hp,e,q⟩:=h
 obtain ⟨u,v,rfl,ru,rv⟩:=r.two
 cases ru;cases rv
 obtain ⟨its,rt,it,_⟩:=I.tuple (.of hp)
 have ei:=refs_of rt
 subst ei
 obtain ⟨⟨cls,dd,data,sl⟩,ho,hc,n,hd⟩:=id it
 simp only at hc hd
 subst hc hd
 obtain ⟨p',_,_⟩:=(show ObjOk X.prog X.w H s.heap a (excO C a) from I.hok a _ ha)
 exact PySem.W.kia_tup (kitx_exc k) I.kIn (exc_inst p') ho e (fun z=>nomatch z) fun tk=>⟨.bl b,H,I.tok tk,rfl,q⟩
end
end L2
namespace L2
open PySem PySem.W
def excTab (K:Frag) (cs:List Addr) (cT:Addr):Bool:=(List.range 12).all fun i=>
 ((List.range 12).all fun j=>kitOne K (.ref (cs.getD i 0)) (.ref (cs.getD j 0)) == some (decide (i=j))) && (kitOne K (.ref (cs.getD i 0)) (.type "ValueError") == some true) && (kitOne K (.ref (cs.getD i 0)) (.ref cT) == some true) &&
  (exmOne K (.ref (cs.getD i 0)) (.ref cT) == some true) && (i == 10 || excIn K (cs.getD i 0) bmVE "ValueError.__new__")
def excOwn (K:Frag) (c:Addr):Bool:=(findIn K (.ref c) "__getattribute__" == some (some (.builtin "BaseException.__getattribute__"))) && (findIn K (.ref c) "__getattr__" == some none) && (findIn K (.ref c) "__class__" == some (some (.builtin "object.__class__"))) &&
 (mroIn K c (.type "object") == some true) && hasDictIn K c && (subIn K (.ref c) (.type "BaseException") == some true)
def excAll (K:Frag) (cs:List Addr):Bool:=(specialIn K (.builtin "object.__class__") "__get__" == some (some (.builtin "getset_descriptor.__get__"))) && (takesIn K (.builtin "object.__class__") == some true) && (List.range 12).all fun i=>excOwn K (cs.getD i 0)
section
variable {K:Frag} {cs:List Addr} {cT:Addr}
theorem tab_at (h:excTab K cs cT=true) {i:Nat} (hi:i < 12):((((∀ j,j < 12->kitOne K (.ref (cs.getD i 0)) (.ref (cs.getD j 0))=some (decide (i=j)))/\kitOne K (.ref (cs.getD i 0)) (.type "ValueError")=some true)/\kitOne K (.ref (cs.getD i 0)) (.ref cT)=some true) /\
  exmOne K (.ref (cs.getD i 0)) (.ref cT)=some true)/\(i=10 \/ excIn K (cs.getD i 0) bmVE "ValueError.__new__"=true):=by
 have q:=List.all_eq_true.mp h i (List.mem_range.mpr hi)
 simp only [Bool.and_eq_true,Bool.or_eq_true,beq_iff_eq] at q
 refine ⟨⟨⟨⟨fun j hj=>?_,q.1.1.1.2⟩,q.1.1.2⟩,q.1.2⟩,q.2⟩
 exact beq_iff_eq.mp (List.all_eq_true.mp q.1.1.1.1 j (List.mem_range.mpr hj))
theorem tab_kd (h:excTab K cs cT=true) {i j:Nat} (hi:i < 12) (hj:j < 12):kitOne K (.ref (cs.getD i 0)) (.ref (cs.getD j 0))=some (decide (i=j)):=(tab_at h hi).1.1.1.1 j hj
theorem tab_kv (h:excTab K cs cT=true) {i:Nat} (hi:i < 12):kitOne K (.ref (cs.getD i 0)) (.type "ValueError")=some true:=(tab_at h hi).1.1.1.2
theorem tab_ex (h:excTab K cs cT=true) {i:Nat} (hi:i < 12):exmOne K (.ref (cs.getD i 0)) (.ref cT)=some true:=(tab_at h hi).1.2
theorem tab_ok (h:excTab K cs cT=true) {i:Nat} (hi:i < 12) (n:i ≠ 10):excIn K (cs.getD i 0) bmVE "ValueError.__new__"=true:=(tab_at h hi).2.resolve_left n
theorem all_ek (h:excAll K cs=true) {i:Nat} (hi:i < 12):ExcK K (cs.getD i 0):=by
 unfold excAll at h
 simp only [Bool.and_eq_true,beq_iff_eq] at h
 have q:=List.all_eq_true.mp h.2 i (List.mem_range.mpr hi)
 unfold excOwn at q
 simp only [Bool.and_eq_true,beq_iff_eq] at q
 exact ⟨q.1.1.1.1.1,q.1.1.1.1.2,q.1.1.1.2,h.1.1,h.1.2,q.1.1.2,q.1.2,q.2⟩
end
end L2
namespace L2
open PySem PySem.Spec PyProof.Rows
section
variable {prog:Program} {w:World} {A:Around} {E:Value->Shared->Prop} {s:Shared}
end
section
variable {X:Cx} {pos:Pos}
end
section
variable {X:Cx}
end
end L2
namespace L2
open PySem PySem.Spec PyProof.Rows
section
variable {prog:Program} {w:World} {A:Around} {E:Value->Shared->Prop} {s:Shared}
open Builtin.Str in
end
section
variable {X:Cx} {pos:Pos}
end
section
variable {X:Cx}
end
section
open PySem.SeqAt
open PySem.AutoSeq1 (wpAny_loadPart')
open PySem.MeetsSeq PySem.MeetsSeq2 PySem.MeetsSeq3
end
section
variable {X:Cx}
end
end L2
namespace L2
open PySem PySem.Spec PyProof.Rows
open PySem.AutoSeq1 (wpAny_loadPart')
section
variable {prog:Program} {w:World} {A:Around} {E:Value->Shared->Prop} {s:Shared}
end
section
variable {X:Cx}
end
end L2
namespace L2
open PySem PySem.Spec PyProof.Rows
section
variable {prog:Program} {w:World} {A:Around} {R:Result->Shared->Prop} {s:Shared} {elt target iter tg2 iter2:Expr} {ifs ifs2:List Expr} {scope:Scope} {pos:Pos} {it acc:Value} {env:Env}
end
section
variable {X:Cx}
end
end L2
namespace L2
open PySem PySem.Spec PyProof.Rows
section
variable {prog:Program} {w:World} {A:Around} {E:Value->Shared->Prop} {s:Shared}
end
end L2
namespace L2
open PySem PySem.Spec PyProof.Rows
section
variable {X:Cx}
end
end L2
namespace L2
open PySem PySem.Spec PyProof.Rows
section
variable {prog:Program} {w:World} {A:Around} {E:Value->Shared->Prop} {s:Shared}
end
end L2
namespace L2
open PySem PySem.Spec PyProof.Rows
section
variable {prog:Program} {w:World} {A:Around} {s:Shared} {R:Result->Shared->Prop}
end
end L2
namespace L2
open PySem PySem.Spec PyProof.Rows
section
variable {prog:Program} {w:World} {A:Around} {s:Shared} {R:Result->Shared->Prop}
end
section
variable {X:Cx}
end
end L2
namespace L2
open PySem PySem.Spec PyProof.Rows
section
variable {X:Cx} {e:Expr} {te:TE} {pos p1 p2 p3:Pos} {j1 j2:Nat} {lo:Int}
end
def numS (n:Nat):Str:=Str.ofString (toString (n:Int))
section
variable {X:Cx}
end
theorem numS_cps (n:Nat):(numS n).cps.toList=(Nat.toDigits 10 n).map Char.toNat:=PySem.W.KIN.signs_num n
theorem numS_len {n:Nat} (h:n < 10 ^ 6):(numS n).length <= 6/\1 <= (numS n).length:=by
 have e:(numS n).length=(Nat.toDigits 10 n).length:=by
  show (numS n).cps.size=_
  rw [<- Array.length_toList,numS_cps,List.length_map]
 rw [e]
 exact ⟨(Nat.length_toDigits_le_iff (by decide) (by decide)).mpr h,toDigits_len_ge 10 n⟩
end L2
namespace L2
open PySem PySem.Spec PyProof.Rows
section
variable {X:Cx} {o i:Expr} {pos:Pos} {td ty:TE}
end
def LawOk (P:Program) (w:World) (K:PySem.W.Frag) (mg:Str->Option Value) (base:Heap) (k:Nat) (f:Addr) (fd:FuncData) (ps:List Str) (sp:Sp):Prop:=
 ∀ (outer:List Env) (s:Shared) (H:Hp) (args:Args) (us:List Value) (vs:List V) (Q:VK) (E:XK),Room k callerA->Env0 P w K mg base callerA outer s H->BindsTo s fd args (ps.zip us)->Vals vs us->sp vs H Q E ->
  codeAny (model P w) callerA (.call (.ref f) args) (CR CX0 outer P w H s Q E) s
end L2
namespace L2
open PySem PySem.Spec PyProof.Rows
theorem Fun.okL {P:Program} {w:World} {K:PySem.W.Frag} {mg:Str->Option Value} {base:Heap} {x qual:Str} {st:Stmt} {f:Addr} {fd:FuncData} {N ps:List Str} {k:Nat} {sp:Sp} (F:Fun K x qual st f fd) (S:FnScope N ps (defScope st)) (len:∀ vs H Q E,sp vs H Q E->vs.length=ps.length)
  (hbody:∀ (cdv:Value) (outer:List Env) (s:Shared) (H:Hp) (vs:List V) (Q:VK) (E:XK),Room k (callerA.deeper (envOfC qual (defScope st) s.heap.objs.size f cdv))->sp vs H Q E ->
   ∃ t,PSs (cxOf CX0 P w K mg base N qual (defScope st) f cdv callerA outer s H E).nox (defBody st) t/\t { nx:=fun _ H'=>Q .non H',rt:=Q } (start N vs) H):LawOk P w K mg base (k + 1) f fd ps sp:=by
 obtain ⟨oc,od,kV,doc,pm,an,cdv,ct,osl,rfl,lk,hcd⟩:=F.ex
 intro outer s H args us vs Q E hr e0 hb r hsp
 have hl:=len _ _ _ _ hsp
 have KX:K.In s.heap:=e0.mod.kin.keeps fun b o e=>(e0.bs b o e).1
 have lim:s.heap.NoLimit:=e0.mod.nolimit.keeps fun b o e=>(e0.bs b o e).1
 have hkind:∀ y ∈ ps.zip us,(defScope st).names.lookup y.1=some .local \/ ((defScope st).names.lookup y.1=some .cell/\((cellsFrom (s.heap.objs.size + 1) (defScope st).names []).lookup y.1).isSome=true):=fun ⟨n,v⟩ hy=>by
  rcases S.par n (List.of_mem_zip hy).1 with q | q
  ·exact .inl q
  ·exact .inr ⟨q,PySem.W.cellsFrom_some _ _ _ (.inl q)⟩
 refine codeAny_call_function hr.depth (KX _ _ lk) rfl S.co S.gen rfl (PySem.W.codeRec_of KX hcd) (hb _ _ _ _ ?_)
 refine wpAny_newFunctionEnv_cells S.kind hkind fun env he s1 x=>?_
 subst he
 refine ⟨lim.keeps x.toInCall.keep,codeAny_func ?_⟩
 obtain ⟨t,ht,hq⟩:=hbody cdv outer s H vs Q E (hr.deeper _) hsp
 have ht:=ht.nox
 have I:Inv (cxOf CX0 P w K mg base N qual (defScope st) f cdv callerA outer s H E) [] (start N vs) H s1:=inv_start S hr.hd e0 hl r x
 refine wpAny_mono (ht [] s1 (start N vs) H _ I hq) (fun fl s' hs=>?_) fun e s' hs=>hs
 have fin:∀ {σ':St} {H':Hp} {v:V} {u:Value},Inv (cxOf CX0 P w K mg base N qual (defScope st) f cdv callerA outer s H E) [] σ' H' s'->RelV v u->Q v H'->CE outer P w H s Q u s':=
  fun {σ' H' v u} J rv q=>⟨v,H',J.os,J.bare,J.base,J.hok,rv,q⟩
 cases fl with
 | ret u=>
  obtain ⟨v,σ',H',J,rv,q⟩:=hs
  exact fin J rv q
 | next=>
  obtain ⟨σ',H',J,q⟩:=hs
  exact fin (v:=V.non) (u:=Value.none) J rfl q
 | brk=>
  obtain ⟨_,_,_,q⟩:=hs
  exact False.elim q
 | cont=>
  obtain ⟨_,_,_,q⟩:=hs
  exact False.elim q
structure DOk (n W:Nat) (d:PyData):Prop where
 sh:d.showable=true
 nd:d.hasDict=false
 dp:d.depth <= n
 lv:d.leavesShort 13=true
 wt:d.weight <= W
theorem dok_non:DOk 0 0 .none:=⟨rfl,by simp only [PyData.hasDict],by simp only [PyData.depth];omega,rfl,by simp only [PyData.weight];omega⟩
theorem dok_str {z:Str} {n:Nat} (h:∀ c ∈ z.cps.toList,c < 1000) (hl:z.length <= n):DOk 0 n (.str z):=by
 refine ⟨by simp only [PyData.showable],by simp only [PyData.hasDict],by simp only [PyData.depth];omega,?_,by simp only [PyData.weight];exact hl⟩
 simp only [PyData.leavesShort,List.all_eq_true,decide_eq_true_eq]
 exact fun c hc=>Nat.lt_trans (h c hc) (by decide)
theorem dok_int {n:Nat} (h:n < 10 ^ 6):DOk 0 20 (.int n):=by
 have hl:(n:Int).natAbs.log2 < 20:=by
  by_cases h0:n=0
  ·subst h0;decide
  ·show n.log2 < 20
   rw [Nat.log2_lt h0];omega
 refine ⟨by simp only [PyData.showable,decide_eq_true_eq];omega,by simp only [PyData.hasDict],by simp only [PyData.depth];omega,?_,?_⟩
 ·have:=(numS_len h).1
  exact decide_eq_true (show (numS n).length <= 13 by omega)
 ·simp only [PyData.weight]
  split <;> omega
end L2
namespace L2
open PySem PySem.Spec PyProof.Rows
structure FnOkG (P:Program) (w:World) (K:PySem.W.Frag) (mg:Str->Option Value) (base:Heap) (k:Nat) (f:Addr) (fd:FuncData) (ps:List Str) (sp:Sp):Prop where
 len:∀ vs H Q E,sp vs H Q E->vs.length=ps.length
 run:∀ (A:Around) (outer:List Env) (s:Shared) (H:Hp) (args:Args) (us:List Value) (vs:List V) (Q:VK) (E:XK),A.guards=some []->Room k A->Env0 P w K mg base A outer s H->BindsTo s fd args (ps.zip us)->Vals vs us->sp vs H Q E ->
  codeAny (model P w) A (.call (.ref f) args) (CR CX0 outer P w H s Q E) s
theorem Fun.okG {P:Program} {w:World} {K:PySem.W.Frag} {mg:Str->Option Value} {base:Heap} {x qual:Str} {st:Stmt} {f:Addr} {fd:FuncData} {N ps:List Str} {k:Nat} {sp:Sp} (F:Fun K x qual st f fd) (S:FnScope N ps (defScope st)) (len:∀ vs H Q E,sp vs H Q E->vs.length=ps.length)
  (hbody:∀ (cdv:Value) (A:Around) (outer:List Env) (s:Shared) (H:Hp) (vs:List V) (Q:VK) (E:XK),(A.deeper (envOfC qual (defScope st) s.heap.objs.size f cdv)).guards=some []->Room k (A.deeper (envOfC qual (defScope st) s.heap.objs.size f cdv))->sp vs H Q E ->
   ∃ t,PSs (cxOf CX0 P w K mg base N qual (defScope st) f cdv A outer s H E).nox (defBody st) t/\t { nx:=fun _ H'=>Q .non H',rt:=Q } (start N vs) H):FnOkG P w K mg base (k + 1) f fd ps sp:=by
 obtain ⟨oc,od,kV,doc,pm,an,cdv,ct,osl,rfl,lk,hcd⟩:=F.ex
 refine ⟨len,?_⟩
 intro A outer s H args us vs Q E hgd hr e0 hb r hsp
 have hl:=len _ _ _ _ hsp
 have KX:K.In s.heap:=e0.mod.kin.keeps fun b o e=>(e0.bs b o e).1
 have lim:s.heap.NoLimit:=e0.mod.nolimit.keeps fun b o e=>(e0.bs b o e).1
 have hkind:∀ y ∈ ps.zip us,(defScope st).names.lookup y.1=some .local \/ ((defScope st).names.lookup y.1=some .cell/\((cellsFrom (s.heap.objs.size + 1) (defScope st).names []).lookup y.1).isSome=true):=fun ⟨n,v⟩ hy=>by
  rcases S.par n (List.of_mem_zip hy).1 with q | q
  ·exact .inl q
  ·exact .inr ⟨q,PySem.W.cellsFrom_some _ _ _ (.inl q)⟩
 refine codeAny_call_function hr.depth (KX _ _ lk) rfl S.co S.gen rfl (PySem.W.codeRec_of KX hcd) (hb _ _ _ _ ?_)
 refine wpAny_newFunctionEnv_cells S.kind hkind fun env he s1 x=>?_
 subst he
 refine ⟨lim.keeps x.toInCall.keep,codeAny_func ?_⟩
 obtain ⟨t,ht,hq⟩:=hbody cdv A outer s H vs Q E hgd (hr.deeper _) hsp
 have ht:=ht.nox
 have I:Inv (cxOf CX0 P w K mg base N qual (defScope st) f cdv A outer s H E) [] (start N vs) H s1:=inv_start S hr.hd e0 hl r x
 refine wpAny_mono (ht [] s1 (start N vs) H _ I hq) (fun fl s' hs=>?_) fun e s' hs=>hs
 have fin:∀ {σ':St} {H':Hp} {v:V} {u:Value},Inv (cxOf CX0 P w K mg base N qual (defScope st) f cdv A outer s H E) [] σ' H' s'->RelV v u->Q v H'->CE outer P w H s Q u s':=
  fun {σ' H' v u} J rv q=>⟨v,H',J.os,J.bare,J.base,J.hok,rv,q⟩
 cases fl with
 | ret u=>
  obtain ⟨v,σ',H',J,rv,q⟩:=hs
  exact fin J rv q
 | next=>
  obtain ⟨σ',H',J,q⟩:=hs
  exact fin (v:=V.non) (u:=Value.none) J rfl q
 | brk=>
  obtain ⟨_,_,_,q⟩:=hs
  exact False.elim q
 | cont=>
  obtain ⟨_,_,_,q⟩:=hs
  exact False.elim q
structure CalG (P:Program) (w:World) (K:PySem.W.Frag) (mg:Str->Option Value) (base:Heap) (k:Nat) (x:Str) (ps:List Str) (sp:Sp):Prop where
 ex:∃ (f:Addr) (fd:FuncData),FnOkG P w K mg base k f fd ps sp/\mg x=some (.ref f)/\PySem.W.keepIn K (.ref f)=true/\Binds K fd ps []
section
variable {X:Cx} {k:Nat} {f C:Addr} {fd:FuncData} {ps:List Str} {sp:Sp} {dvs:List V} {ds:List Value} {E:XK} {x m:Str} {p pos apos:Pos} {e o:Expr} {es:List Expr} {ta:TE} {t:TA}
theorem run_fnG {pins:List (Addr × Obj)} {σ:St} {H:Hp} {s:Shared} {Q:VK} {us:List Value} {vs:List V} (F:FnOkG X.prog X.w X.K X.mg X.base k f fd ps sp) (hgd:X.A.guards=some []) (hr:Room k X.A) (hb:Binds X.K fd ps ds) (hd:Vals dvs ds) (hx:Passes CX0 X E)
  (I:Inv X pins σ H s) (r:Vals vs us) (h:sp (vs ++ dvs) H Q E):wpAny (model X.prog X.w) X.A (call (.ref f) us) (EP X pins σ Q) X.xe s:=by
 have r2:Vals (vs ++ dvs) (us ++ ds):=r.append hd
 have hl:(us ++ ds).length=ps.length:=by rw [<- r2.length];exact F.len _ _ _ _ h
 refine wpAny_call (codeAny_mono (F.run X.A X.stack s H ⟨us,[]⟩ (us ++ ds) (vs ++ dvs) Q E hgd hr I.env0 (hb s us I.kIn hl) r2 h) fun r s' hq=>?_)
 cases r with
 | error e=>exact hx pins σ H s e s' I hq
 | ok fl=>
  cases fl with
  | ret u=>exact I.after hq
  | next=>exact False.elim hq
  | brk=>exact False.elim hq
  | cont=>exact False.elim hq
theorem pe_callG (F:FnOkG X.prog X.w X.K X.mg X.base k f fd ps sp) (hgd:X.A.guards=some []) (hr:Room k X.A) (hg:Gl X x) (hm:X.mg x=some (.ref f)) (hk:PySem.W.keepIn X.K (.ref f)=true) (hb:Binds X.K fd ps ds) (hd:Vals dvs ds) (hx:Passes CX0 X E)
  (ha:PA X (e :: es) t) (hdb:(x == ("__debug__" : Str))=false:=by decide) (he:starEach (e :: es) X.env=(false,eval e X.env) :: starEach es X.env:=by rfl) (hpl:(backTo pos (starEach es X.env)).any (·.1)=false:=by rfl) :
  PE X (.Call (.Name x p) (e :: es) [] pos) (tCall sp dvs E t):=by
 intro pins s σ H Q I h
 refine wpAny_Call_Name_kw (ld_glob I hg hm ?_ hdb)
 refine PySem.W.callWith_K (h₀:=X.base) I.ok.mod.kin hk (thn (ha pos pins s σ H _ I h) fun us s1 hz68=>?_) he hpl
 obtain ⟨vs,H1,I1,r,q⟩:=hz68
 refine ⟨I1.kIn,?_⟩
 exact run_fnG F hgd hr hb hd hx I1 r q
theorem pe_calG (C:CalG X.prog X.w X.K X.mg X.base k x ps sp) (hgd:X.A.guards=some []) (hr:Room k X.A) (ha:PA X (e :: es) t) (hg:Gl X x:=by rfl)
  (hdb:(x == ("__debug__" : Str))=false:=by decide) (he:starEach (e :: es) X.env=(false,eval e X.env) :: starEach es X.env:=by rfl) (hpl:(backTo pos (starEach es X.env)).any (·.1)=false:=by rfl) :
  PE X (.Call (.Name x p) (e :: es) [] pos) (tCall sp [] E0 t):=
 let ⟨_,_,F,hm,hk,hb⟩:=C.ex
 pe_callG F hgd hr hg hm hk hb .nil pass0 ha hdb he hpl
end
theorem FunG.okG {P:Program} {w:World} {K:PySem.W.Frag} {mg:Str->Option Value} {base:Heap} {x:Str} {st:Stmt} {N ps:List Str} {k:Nat} {sp:Sp} (G:FunG K mg x st ps) (S:FnScope N ps (defScope st)) (len:∀ vs H Q E,sp vs H Q E->vs.length=ps.length)
  (hbody:∀ (f:Addr) (cdv:Value) (A:Around) (outer:List Env) (s:Shared) (H:Hp) (vs:List V) (Q:VK) (E:XK),(A.deeper (envOfC x (defScope st) s.heap.objs.size f cdv)).guards=some []->Room k (A.deeper (envOfC x (defScope st) s.heap.objs.size f cdv))->sp vs H Q E ->
   ∃ t,PSs (cxOf CX0 P w K mg base N x (defScope st) f cdv A outer s H E).nox (defBody st) t/\t { nx:=fun _ H'=>Q .non H',rt:=Q } (start N vs) H):CalG P w K mg base (k + 1) x ps sp:=by
 obtain ⟨f,fd,F,hm,hb⟩:=G.ex
 exact ⟨f,fd,F.okG S len (hbody f),hm,F.kp,hb⟩
theorem law_callM {P:Program} {w:World} {K:PySem.W.Frag} {mg mb:Str->Option Value} {k:Nat} {fa a:Addr} {fd:FuncData} {x:Str} {sp:Sp} {s₁:Shared} {vs:List Value} {ns:List Int}
  (KX:K.In s₁.heap) (hns:s₁.heap.Ns mainGlobals mg) (hb:s₁.heap.Ns builtinsNs mb) (hbb:∀ x:Str,x ≠ "__name__"->mb x=bootBuiltins x) (hlim:s₁.heap.NoLimit) (hg:s₁.gens = #[])
  (ha:s₁.heap.get? a=some { cls:=.type "list",data:=.seq vs.toArray }) (hi:IntsAre vs ns) (hl:ns.length <= sizeLine) (hr:Room k callerA)
  (hsm:∃ mm,s₁.heap.Ns sysModules mm) (F:∀ base:Heap,K.In base->base.Ns mainGlobals mg->(∃ o,base.get? sysModules=some o)->LawOk P w K mg base k fa fd [x] sp) (hbind:∀ (s:Shared) (u:Value),BindsTo s fd ⟨[u],[]⟩ [(x,u)])
  (hsp:∀ H:Hp,Only H->SqL K H a (ns.map V.int)->sp [.ref a] H (fun v _=>v=.bl true) fun _ _ _=>False) :
  codeAny (model P w) callerA (.call (.ref fa) ⟨[.ref a],[]⟩) (fun r s'=>r=.ok (.ret (.bool true))/\OldK s₁.heap s'.heap/\s'.os=s₁.os/\AllBare s'.gens) s₁:=by
 have rv:=vals_ints hi
 have lenV:=hi.length
 have core:∀ H:Hp,Only H->SqL K H a (ns.map V.int)->HOk P w H s₁.heap->(∀ b,H b ≠ none->b=a)->(H a ≠ none->K.lookup a=none) ->
   codeAny (model P w) callerA (.call (.ref fa) ⟨[.ref a],[]⟩) (fun r s'=>r=.ok (.ret (.bool true))/\OldK s₁.heap s'.heap/\s'.os=s₁.os/\AllBare s'.gens) s₁:=by
  intro H hO hS hok hA hK
  have base_of:∀ {b:Addr} {o:Obj},s₁.heap.get? b=some o->H b=none->(hidT s₁.heap H).get? b=some o:=fun e n=>hidT_get e n
  have noA:∀ {b:Addr} {o:Obj} {es:Array DictEntry} {ep:Nat},s₁.heap.get? b=some o->o.data=.dict es ep->H b=none:=fun {b o es ep} e d=>by
   cases q:H b with
   | none=>rfl
   | some u=>
    have e':b=a:=hA b (by rw [q];simp)
    subst e'
    rw [ha] at e;cases e
    have d':Data.seq vs.toArray _=Data.dict es ep:=d
    cases d'
  have nsK:∀ {b:Addr} {m:Str->Option Value},s₁.heap.Ns b m->(hidT s₁.heap H).Ns b m:=fun {b m} ⟨o,es,ep,e,d,r⟩=>⟨o,es,ep,base_of e (noA e d),d,r⟩
  have hKb:K.In (hidT s₁.heap H):=fun b o e=>base_of (KX b o e) (by
   cases q:H b with
   | none=>rfl
   | some u=>
    have e':b=a:=hA b (by rw [q];simp)
    subst e'
    rw [hK (by rw [q];simp)] at e;cases e)
  have hM:Mod K mg (hidT s₁.heap H):=⟨hKb,nsK hns,⟨mb,nsK hb,hbb⟩,let ⟨mc,h1,h2⟩:=hlim;⟨mc,nsK h1,h2⟩⟩
  have e0:Env0 P w K mg (hidT s₁.heap H) callerA [] s₁ H:=⟨rfl,hM,fun b o e=>of_hidT e,Nat.le_of_eq (hidT_size _ _),trivial,fun b hb=>absurd (show b ∈ ([]:List Addr) from hb) (by simp),hok,.of_eq hg⟩
  refine codeAny_mono ((F _ hKb (nsK hns) (let ⟨mm,hm⟩:=hsm;let ⟨o,_,_,e,_⟩:=nsK hm;⟨o,e⟩)) [] s₁ H ⟨[.ref a],[]⟩ [.ref a] [.ref a] _ _ hr e0 (hbind s₁ (.ref a)) (.cons rfl .nil) (hsp H hO hS)) fun r s' h=>?_
  cases r with
  | error e=>exact (show False from h).elim
  | ok fl=>
   cases fl with
   | next=>exact False.elim h
   | brk=>exact False.elim h
   | cont=>exact False.elim h
   | ret u=>
    obtain ⟨v,H',os,bare,un,hok',r',q⟩:=h
    have q':v=.bl true:=q
    subst q'
    obtain rfl:u=Value.bool true:=r'
    refine ⟨rfl,OldK.of_keep fun b o e=>?_,os,bare⟩
    cases q:H b with
    | none=>exact un.keep b o e q (by intro z;exact absurd (show b ∈ ([]:List Addr) from z) (by simp)) (by simp)
    | some u=>
     rcases hO b with z | ⟨ob,xs,z⟩
     ·rw [q] at z;cases z
     ·have z2:=un.frzs b ob _ z
      obtain ⟨e1,_⟩:=hok b _ z
      obtain ⟨e2,_⟩:=hok' b _ z2
      rw [e] at e1;cases e1
      exact e2
 cases hk:K.lookup a with
 | some o=>
  have e:=KX a o hk
  rw [ha] at e
  cases e
  refine core (fun _=>none) (fun _=>.inl rfl) (.inr ⟨_,vs.toArray,_,hk,rfl,rfl,rfl,by rw [List.size_toArray,lenV];exact hl,by simpa using rv⟩) (fun b u z=>by have z':(none:Option HO)=some u:=z;cases z') (fun b z=>absurd rfl z) fun z=>absurd rfl z
 | none=>
  refine core (fun b=>if b=a then some (.frz { cls:=.type "list",data:=.seq vs.toArray } (.lst (ns.map V.int))) else none) (fun b=>?_) (.inl (.inr ⟨{ cls:=.type "list",data:=.seq vs.toArray },if_pos rfl⟩)) (fun b u z=>?_) (fun b z=>?_) fun _=>hk
  ·by_cases hb:b=a
   ·exact .inr ⟨_,_,if_pos hb⟩
   ·exact .inl (if_neg hb)
  ·by_cases hb:b=a
   ·have z':=(if_pos hb).symm.trans z
    cases z'
    subst hb
    exact ⟨ha,by rw [List.length_map];exact hl,vs,_,rv,ha⟩
   ·have z':=(if_neg hb).symm.trans z
    cases z'
  ·by_cases hb:b=a
   ·exact hb
   ·exact absurd (if_neg hb) z
theorem walk_ofM {l:PySem.W.OpenLaw} {n k:Nat} {q:Program} {loose:List Str} {XP:(Str->Option Value)->Heap->Prop} {YP:World->Heap->Prop} {d:DefRec} {K:Params->PySem.W.Frag} {sp:World->Sp} {x:Str}
  (hn:l.most=some n) (hn2:n <= sizeLine) (himp:importsNone q=true) (hdf:d.params.defaults=[]) (hr:Room k callerA)
  (hY:∀ (w:World) (h:Heap),YP w h->(K w.params).In h)
  (F:∀ (w:World) (mg:Str->Option Value) (fa:Addr) (h:Heap),(K w.params).In h->h.Ns mainGlobals mg->mg d.name=some (.ref fa) ->
   ∃ fd:FuncData,(∀ (s:Shared) (u:Value),BindsTo s fd ⟨[u],[]⟩ [(x,u)]) /\
    ∀ base:Heap,(K w.params).In base->base.Ns mainGlobals mg->(∃ o,base.get? sysModules=some o)->LawOk l.prog w (K w.params) mg base k fa fd [x] (sp w))
  (hsp:∀ (w:World) (H:Hp) (a:Addr) (ns:List Int),ns.length <= n->Only H->SqL (K w.params) H a (ns.map V.int)->sp w [.ref a] H (fun v _=>v=.bl true) fun _ _ _=>False) :
  PySem.W.WalkO q loose XP YP l.row.toRowW d [] (fun f vs=>PySem.call f vs):=by
 refine Att.attach_call hn hdf fun w s₀ s₁ mg mb fa o pm cd doc a vs ns G Y ho hd hcd hmg hobj hints hlen hg=>?_
 have KX:=hY w _ Y
 obtain ⟨fd,hb,hF⟩:=F w mg fa _ KX G.T.g hmg
 exact law_callM KX G.T.g G.T.b G.T.builtins G.T.nolimit hg hobj hints (Nat.le_trans hlen hn2) hr (let ⟨mm,hm,_⟩:=(G.T.seer himp).mods;⟨mm,hm⟩) hF hb (fun H hO hS=>hsp w H a ns hlen hO hS)
end L2
namespace L2
open PySem PySem.Spec PyProof.Rows PySem.W
section
variable {prog:Program} {w:World} {A:Around} {E:Value->Shared->Prop} {s:Shared}
end
end L2
namespace L2
open PySem PySem.Spec PyProof.Rows PySem.W
section
variable {prog:Program} {w:World} {A:Around} {E:Value->Shared->Prop} {s:Shared}
end
section
variable {prog:Program} {w:World} {A:Around} {E:Value->Shared->Prop} {s:Shared}
end
end L2
namespace L2
open PySem PySem.Spec PyProof.Rows PySem.W
section
variable {prog:Program} {w:World} {A:Around} {E:Value->Shared->Prop} {s:Shared}
end
end L2
namespace L2
open PySem PySem.Spec PyProof.Rows PySem.W
section
variable {prog:Program} {w:World} {A:Around} {R:Result->Shared->Prop} {I:Addr} {fp wr:List Addr} {G:Array GenState->Array GenState->Prop} {n:Nat} {P:Nat->Value->Prop} {St:Nat->Shared->Prop}
end
section
variable {prog:Program} {w:World} {A:Around} {E:Value->Shared->Prop} {s:Shared}
end
end L2
namespace L2
open PySem PySem.Spec PyProof.Rows PySem.W
section
variable {prog:Program} {w:World} {A:Around} {E:Value->Shared->Prop} {s:Shared}
end
end L2
namespace L2
open PySem PySem.Spec PyProof.Rows PySem.W
section
variable {prog:Program} {w:World} {A:Around} {E:Value->Shared->Prop} {s:Shared}
end
end L2
namespace L2
open PySem PySem.Spec PyProof.Rows PySem.W
section
variable {prog:Program} {w:World} {A:Around} {E:Value->Shared->Prop} {s:Shared}
end
theorem metS_in (val:Nat->Str) (k:Str):∀ i,(metS val i).any (· == k)=true ↔ ∃ j,j < i/\val j=k
 | 0=>⟨fun h=>(by cases h),fun ⟨j,h,_⟩=>absurd h (Nat.not_lt_zero _)⟩
 | i + 1=>by
  rw [metS_any,Bool.or_eq_true,metS_in val k i]
  constructor
  ·rintro (⟨j,h,e⟩ | h)
   ·exact ⟨j,Nat.lt_succ_of_lt h,e⟩
   ·exact ⟨i,Nat.lt_succ_self _,(eq_of_beq h).symm⟩
  ·rintro ⟨j,h,e⟩
   rcases Nat.lt_or_ge j i with hj | hj
   ·exact .inl ⟨j,hj,e⟩
   ·have:j=i:=Nat.le_antisymm (Nat.le_of_lt_succ h) hj
    subst this
    exact .inr (by rw [e];exact beq_self_eq_true k)
section
variable {X:Cx}
end
end L2
namespace K03
open PySem L2
section
variable {P:Program} {w:World} {K:PySem.W.Frag} {mg:Str->Option Value} {base:Heap} {C:Addr}
structure Pl (K:PySem.W.Frag) (H:Hp) (v:V):Prop where
 pt:∃ T,PlainT K H v T
 sz:∀ z,v=.str z->z.length <= 1000
def Dp (K:PySem.W.Frag) (H:Hp):Nat->V->Prop
 | 0,v=>Pl K H v
 | n + 1,v=>Pl K H v/\∀ a,v=.ref a->∀ us,H a=some (.lst us) \/ H a=some (.tup us)->us.length < 60/\∀ u ∈ us,Dp K H n u
theorem Dp.pl {K:PySem.W.Frag} {H:Hp}:∀ {n:Nat} {v:V},Dp K H n v->Pl K H v
 | 0,_,h=>h
 | _ + 1,_,h=>h.1
theorem Pl.keep {K:PySem.W.Frag} {H H':Hp} {v:V} (p:Pl K H v) (k:Keep [] H H'):Pl K H' v:=
 let ⟨T,h⟩:=p.pt
 ⟨⟨T,h.keep k⟩,p.sz⟩
theorem Pl.at {K:PySem.W.Frag} {H:Hp} {a:Addr} (p:Pl K H (.ref a)):∃ o,H a=some o:=by
 obtain ⟨T,h⟩:=p.pt
 cases h with
 | lst e=>exact ⟨_,e⟩
 | tup e=>exact ⟨_,e⟩
 | dK e=>exact ⟨_,e⟩
theorem Dp.keep {K:PySem.W.Frag} {H H':Hp} (k:Keep [] H H'):∀ {n:Nat} {v:V},Dp K H n v->Dp K H' n v
 | 0,_,h=>Pl.keep h k
 | n + 1,v,⟨h,q⟩=>⟨h.keep k,fun a e us hu=>by
  subst e
  obtain ⟨o,ho⟩:=h.at
  have ho':=k _ _ (by simp) ho
  obtain ⟨l,r⟩:=q a rfl us (by
   rcases hu with hu | hu <;> (rw [ho'] at hu;cases hu)
   ·exact .inl ho
   ·exact .inr ho)
  exact ⟨l,fun u h=>(r u h).keep k⟩⟩
theorem Pl.acc {K:PySem.W.Frag} {H H':Hp} {v:V} {acc:Addr} (p:Pl K H v) (k:Keep [acc] H H') (ha:H acc=none):Pl K H' v:=by
 obtain ⟨T,h⟩:=p.pt
 refine ⟨⟨T,?_⟩,p.sz⟩
 cases h with
 | non=>exact .non
 | bl b=>exact .bl b
 | int i=>exact .int i
 | str z=>exact .str z
 | lst e=>exact .lst (k _ _ (by simp [ne_of_none e ha]) e)
 | tup e=>exact .tup (k _ _ (by simp [ne_of_none e ha]) e)
 | dK e=>exact .dK (k _ _ (by simp [ne_of_none e ha]) e)
theorem Dp.acc {K:PySem.W.Frag} {H H':Hp} {acc:Addr} (k:Keep [acc] H H') (ha:H acc=none):∀ {n:Nat} {v:V},Dp K H n v->Dp K H' n v
 | 0,_,h=>Pl.acc h k ha
 | n + 1,v,⟨h,q⟩=>⟨h.acc k ha,fun a e us hu=>by
  subst e
  obtain ⟨o,ho⟩:=h.at
  have ho':=k _ _ (by simp [ne_of_none ho ha]) ho
  obtain ⟨l,r⟩:=q a rfl us (by
   rcases hu with hu | hu <;> (rw [ho'] at hu;cases hu)
   ·exact .inl ho
   ·exact .inr ho)
  exact ⟨l,fun u h=>Dp.acc k ha (r u h)⟩⟩
def IsNs (H:Hp) (v:V) (zs:List Str):Prop:=∃ a,v=.ref a/\H a=some (.lst (zs.map V.str))/\∀ z ∈ zs,GoodN z
theorem good_of {z:Str} (h:nameS z=true):GoodN z:=by
 refine ⟨h,?_⟩
 unfold nameS at h
 simp only [Bool.and_eq_true,decide_eq_true_eq] at h
 exact h.1.2
theorem all_names:∀ (us:List V),us.all nameV=true->∃ zs,us=List.map V.str zs/\∀ z ∈ zs,GoodN z
 | [],_=>⟨[],rfl,fun z h=>absurd h List.not_mem_nil⟩
 | u :: us,h=>by
  rw [List.all_cons,Bool.and_eq_true] at h
  obtain ⟨zs,rfl,g⟩:=all_names us h.2
  cases u with
  | str z=>
   refine ⟨z :: zs,rfl,fun y hy=>?_⟩
   rcases List.mem_cons.mp hy with rfl | hy
   ·exact good_of h.1
   ·exact g y hy
  | _=>exact absurd h.1 (by show ¬ (false=true);decide)
theorem names_all {zs:List Str} (g:∀ z ∈ zs,GoodN z):(zs.map V.str).all nameV=true:=by
 rw [List.all_map,List.all_eq_true]
 exact fun z hz=>(g z hz).1
def spAreNX (K:PySem.W.Frag):Sp:=fun vs H Q _=>∃ v,vs=[v]/\Dp K H 1 v/\∀ (b:Bool) (H':Hp),(b=true ↔ ∃ zs,IsNs H v zs)->Keep [] H H'->Q (.bl b) H'
theorem okAreNX (G:FunG K mg "are_names" sAreN ["thing"]) (CI:Cal P w K mg base CX0 1 "is_name" ["thing"] (spName K)) (b_isinstance:Blt mg "isinstance") (b_list:Blt mg "list") (b_all:Blt mg "all"):Cal P w K mg base CX0 2 "are_names" ["thing"] (spAreNX K):=by
 refine G.ok scAreN (fun vs H Q E h=>by obtain ⟨v,rfl,_⟩:=h;rfl) (fun f cdv A outer s H vs Q E hr h=>?_)
 obtain ⟨v,rfl,dp,q⟩:=h
 have hr1:Room 1 _:=hr
 refine ⟨_,(pss_one (ps_ret (pe_and (pe_blt call_isinst b_isinstance bo_isinstance (pa_cons (pv 0) (pa_cons (pe_ty b_list bo_list) pa_nil))) (pe_one (pe_blt (call_all rfl) b_all bo_all (pa_cons (pe_lc1 (N:=["thing"]) (sc:=defScope sAreN) (ix:=[]) (by decide +kernel) (pi_list (pv 0)) (fun _ _ _ _=>pts_nil) (fun _ _ _ _=>(pe_cal CI hr1 (pa_cons (pv 0) pa_nil)))) pa_nil)))))),?_⟩
 obtain ⟨T,pt⟩:=dp.pl.pt
 refine ⟨_,rfl,_,_,_,_,rfl,pt.ty,pt.kit.2.2.2.1,_,rfl,?_⟩
 have no:(∀ a us,v=.ref a->H a ≠ some (.lst us))->Q (.bl false) H:=fun h=>q false H (iff_of_false (by decide) (fun ⟨zs,a,e1,e2,_⟩=>h a _ e1 e2)) (Keep.refl _)
 cases pt with
 | @lst a us ha=>
  obtain ⟨lu,du⟩:=dp.2 a rfl us (.inl ha)
  refine ifT rfl ?_
  refine ⟨_,rfl,a,rfl,⟨_,.of ha⟩,fun acc hacc=>?_⟩
  have aa:a ≠ acc:=ne_of_none ha hacc
  refine lc_list0 (K:=K) (a:=a) (its:=us) (by rw [sizeLine_eq];omega) (fun i ys τ H1=>∃ k:Option V,τ=[k]/\ys=((us.take i).map nameV).map V.bl/\Keep [acc] H H1/\H1 acc=some (.lst ys)) ?_ ?_ ?_ ?_
  ·exact ⟨_,rfl,rfl,Keep.at (by simp),upd_same⟩
  ·rintro i ys τ H1 ⟨k,rfl,rfl,kp,h1⟩
   exact ⟨h1,by simp;omega,.of (kp _ _ (by simp [aa]) ha)⟩
  ·rintro i ys τ H1 x hx ⟨k,rfl,rfl,kp,h1⟩
   have px:=du x (List.mem_of_getElem? hx)
   obtain ⟨Tx,ptx⟩:=Pl.pt px
   have ptx':PlainT K H1 x Tx:=by
    cases ptx with
    | non=>exact .non
    | bl b=>exact .bl b
    | int i=>exact .int i
    | str z=>exact .str z
    | lst e=>exact .lst (kp _ _ (by simp [ne_of_none e hacc]) e)
    | tup e=>exact .tup (kp _ _ (by simp [ne_of_none e hacc]) e)
    | dK e=>exact .dK (kp _ _ (by simp [ne_of_none e hacc]) e)
   refine ⟨_,rfl,x,Tx,rfl,ptx',Pl.sz px,fun H2 k2=>⟨k2 _ _ (by simp) h1,_,rfl,?_,(kp.trans (k2.mono (by simp))).trans (Keep.at (by simp)),upd_same⟩⟩
   rw [List.take_add_one,hx,List.map_append,List.map_append];rfl
  ·rintro ys τ H1 ⟨k,rfl,rfl,kp,h1⟩
   rw [List.take_of_length_le (Nat.le_refl _)] at h1
   refine ⟨acc,us.map nameV,rfl,.of h1,?_⟩
   rw [all_map_id]
   refine q _ _ ⟨fun h=>?_,fun ⟨zs,a',e1,e2,g⟩=>?_⟩ (kp.drop hacc)
   ·obtain ⟨zs,rfl,g⟩:=all_names us h
    exact ⟨zs,a,rfl,ha,g⟩
   ·cases e1
    rw [ha] at e2;cases e2
    exact names_all g
 | tup e=>exact ifF rfl (no fun a us h1 h2=>by cases h1;rw [e] at h2;cases h2)
 | dK e=>exact ifF rfl (no fun a us h1 h2=>by cases h1;rw [e] at h2;cases h2)
 | _=>exact ifF rfl (no fun a us h1 h2=>by cases h1)
theorem met_less {val:Nat->Str} {n i j:Nat} (hi:i < j) (hj:j < n) (e:val i=val j):(metS val n).length < n:=by
 induction n with
 | zero=>exact absurd hj (Nat.not_lt_zero _)
 | succ n ih=>
  rcases Nat.lt_or_ge j n with h | h
  ·have:=ih h
   rw [metS_len]
   split <;> omega
  ·have:j=n:=by omega
   subst this
   rw [metS_len,if_pos ((metS_in val (val j) j).mpr ⟨i,hi,e⟩)]
   have:=metS_le val j
   omega
theorem many_nodup {zs:List Str} (h:manyS zs=zs.length):zs.Nodup:=by
 rw [List.nodup_iff_pairwise_ne,List.pairwise_iff_getElem]
 intro i j hi hj hij e
 have:=met_less (val:=fun i=>zs.getD i Str.empty) hij hj (by
  show zs.getD i Str.empty=zs.getD j Str.empty
  rw [List.getD_eq_getElem?_getD,List.getD_eq_getElem?_getD,List.getElem?_eq_getElem hi,List.getElem?_eq_getElem hj,e])
 unfold manyS at h
 omega
def spUnlX:Sp:=fun vs H Q _=>∃ (a:Addr) (zs:List Str),vs=[.ref a]/\H a=some (.lst (zs.map V.str))/\zs.length < 1000/\∀ (b:Bool) (H':Hp),(b=true ↔ zs.Nodup)->Keep [] H H'->Q (.bl b) H'
theorem okUnlX (G:FunG K mg "are_unlike" sUnl ["names"]) (b_len:Blt mg "len") (b_set:Blt mg "set"):Cal P w K mg base CX0 1 "are_unlike" ["names"] spUnlX:=by
 refine G.ok scUnl (fun vs H Q E h=>by obtain ⟨a,zs,rfl,_⟩:=h;rfl) (fun f cdv A outer s H vs Q E hr h=>?_)
 obtain ⟨a,zs,rfl,ha,lz,q⟩:=h
 refine ⟨_,(pss_one (ps_ret (pe_cmpR op_eq (pe_blt call_lenSet b_len bo_len (pa_cons (pe_callTy (call_setS rfl) rfl b_set.no bo_set (pa_cons (pv 0) pa_nil)) pa_nil)) (pe_blt call_len b_len bo_len (pa_cons (pv 0) pa_nil)) (nomark _)))),?_⟩
 refine ⟨_,rfl,a,zs,rfl,ha,lz,fun p hp=>⟨p,zs,rfl,upd_same,lz,?_⟩⟩
 have k1:Keep [] H (upd H p (setO P w p zs)):=Keep.new hp
 refine ⟨_,rfl,_,_,rfl,.inl ⟨_,.of (k1 _ _ (by simp) ha),rfl⟩,rfl,?_⟩
 rw [List.length_map]
 refine q _ _ ⟨fun h=>many_nodup ?_,fun h=>decide_eq_true (by rw [manyS_nodup h])⟩ k1
 have h1:=of_decide_eq_true h
 injection h1 with h1
 exact Int.ofNat.inj h1
def IsHs (H:Hp) (v:V) (zs:List Str):Prop:=IsNs H v zs/\zs.Nodup/\1 <= zs.length
theorem IsNs.inj {H:Hp} {v:V} {ys zs:List Str} (h:IsNs H v ys) (g:IsNs H v zs):ys=zs:=by
 obtain ⟨a,rfl,e1,_⟩:=h
 obtain ⟨b,e,e2,_⟩:=g
 cases e
 rw [e1] at e2
 injection e2 with e2
 injection e2 with e2
 exact (List.map_inj_right (fun x y e=>by injection e)).mp e2
theorem IsNs.keep {H H':Hp} {v:V} {zs:List Str} (h:IsNs H v zs) (k:Keep [] H H'):IsNs H' v zs:=
 let ⟨a,e,h1,g⟩:=h
 ⟨a,e,k _ _ (by simp) h1,g⟩
def spAreHX (K:PySem.W.Frag):Sp:=fun vs H Q _=>∃ v,vs=[v]/\Dp K H 1 v/\∀ (b:Bool) (H':Hp),(b=true ↔ ∃ zs,IsHs H v zs)->Keep [] H H'->Q (.bl b) H'
theorem okAreHX (G:FunG K mg "are_houses" sAreH ["thing"]) (CAN:Cal P w K mg base CX0 2 "are_names" ["thing"] (spAreNX K)) (CAU:Cal P w K mg base CX0 1 "are_unlike" ["names"] spUnlX) (b_len:Blt mg "len"):Cal P w K mg base CX0 3 "are_houses" ["thing"] (spAreHX K):=by
 refine G.ok scAreH (fun vs H Q E h=>by obtain ⟨v,rfl,_⟩:=h;rfl) (fun f cdv A outer s H vs Q E hr h=>?_)
 obtain ⟨v,rfl,dp,q⟩:=h
 have hr1:Room 1 _:=hr.mono (by decide)
 have hr2:Room 2 _:=hr
 refine ⟨_,(pss_one (ps_ret (pe_and (pe_cal CAN hr2 (pa_cons (pv 0) pa_nil)) (pe_and (pe_cal CAU hr1 (pa_cons (pv 0) pa_nil)) (pe_one (pe_cmpR op_ge (pe_blt call_len b_len bo_len (pa_cons (pv 0) pa_nil)) pe_int (nomark _))))))),?_⟩
 refine ⟨_,rfl,v,rfl,dp,fun b1 H1 hb1 k1=>⟨_,rfl,?_⟩⟩
 cases b1 with
 | false=>exact ifF rfl (q false H1 (iff_of_false (by decide) (fun ⟨zs,h,_⟩=>by cases hb1.mpr ⟨zs,h⟩)) k1)
 | true=>
  refine ifT rfl ?_
  obtain ⟨zs,hz⟩:=hb1.mp rfl
  obtain ⟨a,rfl,ha,g⟩:=id hz
  have lz:=(dp.2 a rfl _ (.inl ha)).1
  rw [List.length_map] at lz
  refine ⟨_,rfl,a,zs,rfl,k1 _ _ (by simp) ha,by omega,fun b2 H2 hb2 k2=>⟨_,rfl,?_⟩⟩
  have k12:=k1.trans k2
  cases b2 with
  | false=>exact ifF rfl (q false H2 (iff_of_false (by decide) (fun ⟨ys,h,nd,_⟩=>by rw [h.inj hz] at nd;cases hb2.mpr nd)) k12)
  | true=>
   refine ifT rfl ⟨_,rfl,_,_,rfl,.inl ⟨_,.of (k12 _ _ (by simp) ha),rfl⟩,_,_,rfl,rfl,?_⟩
   rw [List.length_map]
   refine q _ _ ⟨fun h=>⟨zs,hz,hb2.mp rfl,?_⟩,fun ⟨ys,h,_,l⟩=>?_⟩ k12
   ·have:=of_decide_eq_true h
    omega
   ·rw [h.inj hz] at l
    exact decide_eq_true (by omega)
def IsTi (H:Hp) (zs:List Str) (u:V) (p:Str × Str):Prop:=∃ t,u=.ref t/\H t=some (.tup (pairV p))/\TieOk zs p
def oneV (x:V) (zs:List Str):Bool:=nameV x && inV x (zs.map V.str)
theorem one_iff {x:V} {zs:List Str} (g:∀ z ∈ zs,GoodN z):oneV x zs=true ↔ ∃ z,x=.str z/\z ∈ zs:=by
 unfold oneV
 constructor
 ·intro h
  rw [Bool.and_eq_true] at h
  cases x with
  | str z=>
   refine ⟨z,rfl,?_⟩
   have h2:=h.2
   unfold inV at h2
   rw [List.any_map,List.any_eq_true] at h2
   obtain ⟨y,hy,e⟩:=h2
   have:(y == z)=true:=e
   rw [<- eq_of_beq this];exact hy
  | _=>exact absurd h.1 (by show ¬ (false=true);decide)
 ·rintro ⟨z,rfl,hz⟩
  rw [show nameV (.str z)=true from (g z hz).1,Bool.true_and]
  unfold inV
  rw [List.any_map,List.any_eq_true]
  exact ⟨z,hz,beq_self_eq_true z⟩
def spOne2 (K:PySem.W.Frag):Sp:=fun vs H Q _=>∃ (x:V) (a:Addr) (zs:List Str),vs=[x,.ref a]/\Pl K H x/\H a=some (.lst (zs.map V.str))/\∀ H',Keep [] H H'->Q (.bl (oneV x zs)) H'
theorem okOne2 (G:FunG K mg "is_one_of" sOneOf ["thing","houses"]) (CI:Cal P w K mg base CX0 1 "is_name" ["thing"] (spName K)):Cal P w K mg base CX0 2 "is_one_of" ["thing","houses"] (spOne2 K):=by
 refine G.ok scOneOf (fun vs H Q E h=>by obtain ⟨x,a,zs,rfl,_⟩:=h;rfl) (fun f cdv A outer s H vs Q E hr h=>?_)
 obtain ⟨x,a,zs,rfl,⟨⟨T,pt⟩,sz⟩,ha,q⟩:=h
 have hr1:Room 1 _:=hr
 refine ⟨_,(pss_one (ps_ret (pe_and (pe_cal CI hr1 (pa_cons (pv 0) pa_nil)) (pe_one (pe_cmpR op_in_seq (pv 0) (pv 1) (by with_unfolding_all rfl)))))),?_⟩
 refine ⟨_,rfl,x,T,rfl,pt,sz,fun H1 k1=>⟨_,rfl,?_⟩⟩
 cases e:nameV x with
 | false=>
  have:oneV x zs=false:=by unfold oneV;rw [e];rfl
  rw [this] at q
  exact ifF rfl (q H1 k1)
 | true=>
  cases x with
  | str z=>
   have:oneV (.str z) zs=inV (.str z) (zs.map V.str):=by unfold oneV;rw [e,Bool.true_and]
   rw [this] at q
   exact ifT rfl ⟨_,rfl,_,rfl,a,_,rfl,.inl (.of (k1 _ _ (by simp) ha)),rfl,flat_strs zs,q H1 k1⟩
  | _=>cases e
def spTieX (K:PySem.W.Frag):Sp:=fun vs H Q _=>∃ (u:V) (a:Addr) (zs:List Str),vs=[u,.ref a]/\Dp K H 1 u/\H a=some (.lst (zs.map V.str))/\(∀ z ∈ zs,GoodN z)/\∀ (b:Bool) (H':Hp),(b=true ↔ ∃ p,IsTi H zs u p)->Keep [] H H'->Q (.bl b) H'
theorem okTieX (G:FunG K mg "is_tie" sTie ["thing","houses"]) (CO:Cal P w K mg base CX0 2 "is_one_of" ["thing","houses"] (spOne2 K)) (b_isinstance:Blt mg "isinstance") (b_tuple:Blt mg "tuple") (b_len:Blt mg "len"):Cal P w K mg base CX0 3 "is_tie" ["thing","houses"] (spTieX K):=by
 refine G.ok scTie (fun vs H Q E h=>by obtain ⟨u,a,zs,rfl,_⟩:=h;rfl) (fun f cdv A outer s H vs Q E hr h=>?_)
 obtain ⟨u,a,zs,rfl,dp,ha,gz,q⟩:=h
 have hr2:Room 2 _:=hr
 refine ⟨_,(pss_cons (ps_if (PW.pt (pw_or (pt_not (pt_val (pe_blt call_isinst b_isinstance bo_isinstance (pa_cons (pv 0) (pa_cons (pe_ty b_tuple bo_tuple) pa_nil))))) (pw_or1 (pt_cmpR op_ne (pe_blt call_len b_len bo_len (pa_cons (pv 0) pa_nil)) pe_int (nomark _))))) (pss_one (ps_ret pe_bl)) pss_nil)
   (pss_cons (ps_asg (pv 0) (pg_tup rfl (pgs_cons (pg_name (i:=2) scTie.nd rfl (Or.inl rfl)) (pgs_cons (pg_name (i:=3) scTie.nd rfl (Or.inl rfl)) pgs_nil))))
   (pss_one (ps_ret (pe_and (pe_cal CO hr2 (pa_cons (pv 2) (pa_cons (pv 1) pa_nil))) (pe_and (pe_cal CO hr2 (pa_cons (pv 3) (pa_cons (pv 1) pa_nil))) (pe_one (pe_cmpR op_ne (pv 2) (pv 3) (nomark _))))))))),?_⟩
 obtain ⟨T,pt⟩:=dp.pl.pt
 refine ⟨_,rfl,_,_,_,_,rfl,pt.ty,pt.kit.2.2.2.2,_,rfl,?_⟩
 have no:∀ H',Keep [] H H'->(∀ t p,u=.ref t->H t ≠ some (.tup (pairV p)))->Q (.bl false) H':=fun H' k h=>q false H' (iff_of_false (by decide) (fun ⟨p,t,e1,e2,_⟩=>h t p e1 e2)) k
 cases pt with
 | @tup t xs ht=>
  refine ifF rfl ?_
  obtain ⟨lx,dx⟩:=dp.2 t rfl xs (.inr ht)
  refine ⟨_,rfl,_,_,rfl,.inr ⟨_,.of ht,rfl⟩,rfl,_,rfl,?_⟩
  by_cases l2:xs.length=2
  ·obtain ⟨x,y,rfl⟩:∃ x y,xs=[x,y]:=by
    match xs,l2 with
    | [x,y],_=>exact ⟨x,y,rfl⟩
   refine ifF (by show (!decide (V.int ((2:Nat):Int)=V.int 2))=false;decide) ?_
   refine ⟨_,rfl,t,_,rfl,.of ht,rfl,_,_,rfl,_,_,rfl,rfl,?_⟩
   have px:Pl K H x:=dx x (by simp)
   have py:Pl K H y:=dx y (by simp)
   have un:∀ p,IsTi H zs (.ref t) p->x=.str p.1/\y=.str p.2:=fun p ⟨t',e1,e2,_⟩=>by
    cases e1
    rw [ht] at e2
    injection e2 with e2;injection e2 with e2;injection e2 with e3 e4;injection e4 with e4 _
    exact ⟨e3,e4⟩
   refine ⟨_,rfl,_,rfl,x,a,zs,rfl,px,ha,fun H1 k1=>⟨_,rfl,?_⟩⟩
   cases e1:oneV x zs with
   | false=>exact ifF rfl (q false H1 (iff_of_false (by decide) (fun ⟨p,h⟩=>by
     have:=(one_iff gz).mpr ⟨p.1,(un p h).1,h.choose_spec.2.2.1⟩
     rw [e1] at this;cases this)) k1)
   | true=>
    refine ifT rfl ⟨_,rfl,_,rfl,y,a,zs,rfl,py.keep k1,k1 _ _ (by simp) ha,fun H2 k2=>⟨_,rfl,?_⟩⟩
    cases e2:oneV y zs with
    | false=>exact ifF rfl (q false H2 (iff_of_false (by decide) (fun ⟨p,h⟩=>by
      have:=(one_iff gz).mpr ⟨p.2,(un p h).2,h.choose_spec.2.2.2.1⟩
      rw [e2] at this;cases this)) (k1.trans k2))
    | true=>
     obtain ⟨z1,rfl,m1⟩:=(one_iff gz).mp e1
     obtain ⟨z2,rfl,m2⟩:=(one_iff gz).mp e2
     refine ifT rfl ⟨_,rfl,_,rfl,rfl,q _ H2 ⟨fun h=>⟨(z1,z2),t,rfl,ht,m1,m2,fun e=>?_⟩,fun ⟨p,h⟩=>?_⟩ (k1.trans k2)⟩
     ·have e':z1=z2:=e
      subst e'
      exact absurd h (by simp)
     ·obtain ⟨f1,f2⟩:=un p h
      obtain ⟨t',_,_,_,_,ne⟩:=h
      injection f1 with f1;injection f2 with f2
      show (!decide (V.str z1=V.str z2))=true
      rw [f1,f2]
      simpa using ne
  ·refine ifT (by show (!decide (V.int (xs.length:Int)=V.int 2))=true;rw [decide_eq_false (fun e=>l2 (by injection e with e;exact Int.ofNat.inj e))];rfl) (no H (Keep.refl _) fun t' p e1 e2=>?_)
   cases e1
   rw [ht] at e2
   injection e2 with e2;injection e2 with e2
   exact l2 (by rw [e2];rfl)
 | lst e=>exact ifT rfl (no H (Keep.refl _) fun a p h1 h2=>by cases h1;rw [e] at h2;cases h2)
 | dK e=>exact ifT rfl (no H (Keep.refl _) fun a p h1 h2=>by cases h1;rw [e] at h2;cases h2)
 | _=>exact ifT rfl (no H (Keep.refl _) fun a p h1 h2=>by cases h1)
def IsTs (H:Hp) (zs:List Str) (v:V) (ps:List (Str × Str)):Prop:=∃ b,v=.ref b/\Rows H b (ps.map pairV)/\(∀ p ∈ ps,TieOk zs p)/\ps.length + 1=zs.length
theorem ties_of {H:Hp} {zs:List Str}:∀ {us:List V} {bs:List Bool},Paired (fun u b=>b=true ↔ ∃ p,IsTi H zs u p) us bs->bs.all id=true->∃ (qs:List Addr) (ps:List (Str × Str)),us=qs.map V.ref/\Paired (fun q r=>H q=some (.tup r)) qs (ps.map pairV)/\∀ p ∈ ps,TieOk zs p
 | _,_,.nil,_=>⟨[],[],rfl,.nil,fun p h=>absurd h List.not_mem_nil⟩
 | _,_,.cons h r,e=>by
  rw [List.all_cons,Bool.and_eq_true] at e
  obtain ⟨p,t,rfl,ht,ok⟩:=h.mp e.1
  obtain ⟨qs,ps,rfl,pr,g⟩:=ties_of r e.2
  refine ⟨t :: qs,p :: ps,rfl,.cons ht pr,fun y hy=>?_⟩
  rcases List.mem_cons.mp hy with rfl | hy
  ·exact ok
  ·exact g y hy
theorem of_ties {H:Hp} {zs:List Str}:∀ {us:List V} {bs:List Bool} {qs:List Addr} {ps:List (Str × Str)},Paired (fun u b=>b=true ↔ ∃ p,IsTi H zs u p) us bs->us=qs.map V.ref->Paired (fun q r=>H q=some (.tup r)) qs (ps.map pairV)->(∀ p ∈ ps,TieOk zs p)->bs.all id=true
 | _,_,_,_,.nil,_,_,_=>rfl
 | _,_,[],_,.cons h r,e,_,_=>by cases e
 | _,_,q :: qs,[],.cons h r,e,pr,_=>by cases pr
 | _,_,q :: qs,p :: ps,.cons h r,e,.cons hq pr,g=>by
  rw [List.map_cons] at e
  injection e with e1 e2
  rw [List.all_cons,Bool.and_eq_true]
  exact ⟨h.mpr ⟨p,q,e1,hq,g p List.mem_cons_self⟩,of_ties r e2 pr fun y hy=>g y (List.mem_cons_of_mem _ hy)⟩
def spAreTX (K:PySem.W.Frag):Sp:=fun vs H Q _=>∃ (v:V) (a:Addr) (zs:List Str),vs=[v,.ref a]/\Dp K H 2 v/\H a=some (.lst (zs.map V.str))/\(∀ z ∈ zs,GoodN z)/\zs.length <= 60/\∀ (b:Bool) (H':Hp),(b=true ↔ ∃ ps,IsTs H zs v ps)->Keep [] H H'->Q (.bl b) H'
theorem okAreTX (G:FunG K mg "are_ties" sAreT ["thing","houses"]) (CT:Cal P w K mg base CX0 3 "is_tie" ["thing","houses"] (spTieX K)) (b_isinstance:Blt mg "isinstance") (b_list:Blt mg "list") (b_len:Blt mg "len") (b_all:Blt mg "all"):Cal P w K mg base CX0 4 "are_ties" ["thing","houses"] (spAreTX K):=by
 refine G.ok scAreT (fun vs H Q E h=>by obtain ⟨v,a,zs,rfl,_⟩:=h;rfl) (fun f cdv A outer s H vs Q E hr h=>?_)
 obtain ⟨v,a,zs,rfl,dp,ha,gz,lz,q⟩:=h
 have hr3:Room 3 _:=hr
 refine ⟨_,(pss_cons (ps_if (PW.pt (pw_or (pt_not (pt_val (pe_blt call_isinst b_isinstance bo_isinstance (pa_cons (pv 0) (pa_cons (pe_ty b_list bo_list) pa_nil))))) (pw_or1 (pt_cmpR op_ne (pe_blt call_len b_len bo_len (pa_cons (pv 0) pa_nil)) (pe_op op_sub (pe_blt call_len b_len bo_len (pa_cons (pv 1) pa_nil)) pe_int) (nomark _))))) (pss_one (ps_ret pe_bl)) pss_nil)
   (pss_one (ps_ret (pe_blt (call_all rfl) b_all bo_all (pa_cons (pe_lc1 (N:=["thing","houses"]) (sc:=defScope sAreT) (ix:=[1]) (by decide +kernel) (pi_list (pv 0)) (fun _ _ _ _=>pts_nil) (fun _ _ _ _=>(pe_cal CT hr3 (pa_cons (pv 0) (pa_cons (pv 1) pa_nil))))) pa_nil))))),?_⟩
 obtain ⟨T,pt⟩:=dp.pl.pt
 refine ⟨_,rfl,_,_,_,_,rfl,pt.ty,pt.kit.2.2.2.1,_,rfl,?_⟩
 have no:∀ H',Keep [] H H'->(∀ b us,v=.ref b->H b ≠ some (.lst us))->Q (.bl false) H':=fun H' k h=>q false H' (iff_of_false (by decide) (fun ⟨ps,b,e1,⟨qs,e2,_⟩,_⟩=>h b _ e1 e2)) k
 cases pt with
 | @lst b us hb=>
  refine ifF rfl ?_
  obtain ⟨lu,du⟩:=dp.2 b rfl us (.inl hb)
  refine ⟨_,rfl,_,_,rfl,.inl ⟨_,.of hb,rfl⟩,_,rfl,_,_,rfl,.inl ⟨_,.of ha,rfl⟩,_,_,rfl,rfl,rfl,_,rfl,?_⟩
  by_cases le:us.length + 1=zs.length
  ·refine ifF ?_ ?_
   ·rw [List.length_map]
    simp;omega
   refine ⟨_,rfl,b,rfl,⟨_,.of hb⟩,fun acc hacc=>?_⟩
   have ba:b ≠ acc:=ne_of_none hb hacc
   have aa:a ≠ acc:=ne_of_none ha hacc
   refine lc_list0 (K:=K) (a:=b) (its:=us) (by rw [sizeLine_eq];omega) (fun i ys τ H1=>∃ (k:Option V) (bs:List Bool),τ=[k,some (.ref a)]/\ys=bs.map V.bl/\Paired (fun u b=>b=true ↔ ∃ p,IsTi H zs u p) (us.take i) bs/\Keep [acc] H H1/\H1 acc=some (.lst ys)) ?_ ?_ ?_ ?_
   ·exact ⟨_,[],rfl,rfl,.nil,Keep.at (by simp),upd_same⟩
   ·rintro i ys τ H1 ⟨k,bs,rfl,rfl,pb,kp,h1⟩
    have:=paired_len pb
    rw [List.length_take] at this
    exact ⟨h1,by rw [List.length_map];omega,.of (kp _ _ (by simp [ba]) hb)⟩
   ·rintro i ys τ H1 x hx ⟨k,bs,rfl,rfl,pb,kp,h1⟩
    have dx:=du x (List.mem_of_getElem? hx)
    have dx':Dp K H1 1 x:=Dp.acc kp hacc dx
    refine ⟨_,rfl,_,rfl,x,a,zs,rfl,dx',kp _ _ (by simp [aa]) ha,gz,fun b2 H2 hb2 k2=>⟨k2 _ _ (by simp) h1,_,bs ++ [b2],rfl,by rw [List.map_append];rfl,?_,(kp.trans (k2.mono (by simp))).trans (Keep.at (by simp)),upd_same⟩⟩
    rw [List.take_add_one,hx]
    refine paired_app pb (.cons (hb2.trans ⟨fun ⟨p,t,e1,e2,ok⟩=>⟨p,t,e1,?_,ok⟩,fun ⟨p,t,e1,e2,ok⟩=>⟨p,t,e1,kp _ _ (by simp [ne_of_none e2 hacc]) e2,ok⟩⟩) .nil)
    subst e1
    obtain ⟨o,ho⟩:=dx.pl.at
    have:=kp _ _ (by simp [ne_of_none ho hacc]) ho
    rw [this] at e2
    rw [ho];exact e2
   ·rintro ys τ H1 ⟨k,bs,rfl,rfl,pb,kp,h1⟩
    rw [List.take_of_length_le (Nat.le_refl _)] at pb
    refine ⟨acc,bs,rfl,.of h1,q _ _ ⟨fun h=>?_,fun ⟨ps,b',e1,⟨qs,e2,pr⟩,g,_⟩=>?_⟩ (kp.drop hacc)⟩
    ·obtain ⟨qs,ps,rfl,pr,g⟩:=ties_of pb h
     have l2:=paired_len pr
     rw [List.length_map] at le l2
     exact ⟨ps,b,rfl,⟨qs,hb,pr⟩,g,by omega⟩
    ·cases e1
     rw [hb] at e2
     injection e2 with e2;injection e2 with e2
     exact of_ties pb e2 pr g
  ·refine ifT ?_ (q false H (iff_of_false (by decide) (fun ⟨ps,b',e1,⟨qs,e2,pr⟩,g,l⟩=>?_)) (Keep.refl _))
   ·rw [List.length_map]
    simp;omega
   ·cases e1
    rw [hb] at e2
    injection e2 with e2;injection e2 with e2
    have l2:=paired_len pr
    rw [List.length_map] at l2
    rw [e2,List.length_map] at le
    omega
 | tup e=>exact ifT rfl (no H (Keep.refl _) fun a us h1 h2=>by cases h1;rw [e] at h2;cases h2)
 | dK e=>exact ifT rfl (no H (Keep.refl _) fun a us h1 h2=>by cases h1;rw [e] at h2;cases h2)
 | _=>exact ifT rfl (no H (Keep.refl _) fun a us h1 h2=>by cases h1)
end
section
variable {P:Program} {w:World} {K:PySem.W.Frag} {mg:Str->Option Value} {base:Heap} {C:Addr}
theorem conn_back {zs zs':List Str} {ps ps':List (Str × Str)} (h:Conn zs' ps') (pz:zs'.Perm zs) (pp:ps'.Perm (ps.map normP)):Conn zs ps:=by
 intro P z0 hz p0 each z hz'
 refine h P z0 (pz.mem_iff.mpr hz) p0 (fun t ht=>?_) z (pz.mem_iff.mpr hz')
 obtain ⟨u,hu,e⟩:=List.mem_map.mp (pp.mem_iff.mp ht)
 have:=each u hu
 rw [<- e]
 rcases norm_is u with q | q <;> rw [q]
 ·exact this
 ·exact this.symm
theorem raw_tie {ps:List (Str × Str)} {z y:Str} (h:y ∈ rawN ps z) {P:Str->Prop} (each:∀ t ∈ ps,P t.1 ↔ P t.2):P z ↔ P y:=by
 unfold rawN at h
 obtain ⟨t,ht,hy⟩:=List.mem_flatMap.mp h
 by_cases e1:t.1=z
 ·rw [if_pos e1] at hy;rw [List.mem_singleton.mp hy,<- e1];exact each t ht
 ·rw [if_neg e1] at hy
  by_cases e2:t.2=z
  ·rw [if_pos e2] at hy;rw [List.mem_singleton.mp hy,<- e2];exact (each t ht).symm
  ·rw [if_neg e2] at hy;cases hy
theorem led_conn {zs:List Str} {ps:List (Str × Str)} {N:Str->List Str} {goal:Str} {ks:List Str} {nx:Str->Str} (pn:∀ z ∈ zs,(N z).Perm (rawN ps z)) (led:Led zs N goal ks nx) (e:ks.length=zs.length):Conn zs ps:=by
 have all:∀ z ∈ zs,z ∈ ks:=fun z hz=>by
  apply Classical.byContradiction
  intro no
  have:=nodup_le (ks:=z :: ks) (zs:=zs) (List.nodup_cons.mpr ⟨no,led.nd⟩) (fun y hy=>by
   rcases List.mem_cons.mp hy with rfl | hy
   ·exact hz
   ·exact led.z y hy)
  rw [List.length_cons] at this
  omega
 intro P z0 hz0 p0 each z hz
 have one:∀ (n i:Nat),i < n->∀ y,ks[i]?=some y->(P goal ↔ P y):=by
  intro n
  induction n with
  | zero=>exact fun i h=>absurd h (Nat.not_lt_zero _)
  | succ n ih=>
   intro i hi y hy
   by_cases yg:y=goal
   ·rw [yg]
   ·obtain ⟨h1,h2⟩:=led.o i y hy yg
    obtain ⟨j,hj⟩:=List.getElem?_of_mem h1
    have jl:j < i:=by
     have:=(List.getElem?_eq_some_iff.mp hj).1
     rw [List.length_take] at this
     omega
    rw [List.getElem?_take_of_lt jl] at hj
    refine (ih j (by omega) _ hj).trans (raw_tie ((pn _ (led.z _ (List.mem_of_getElem? hj))).mem_iff.mp h2) each)
 have two:∀ y ∈ zs,(P goal ↔ P y):=fun y hy=>by
  obtain ⟨i,hi⟩:=List.getElem?_of_mem (all y hy)
  exact one (i + 1) i (Nat.lt_succ_self _) y hi
 exact (two z hz).mp ((two z0 hz0).mpr p0)
def IsTree (H:Hp) (hv tv:V) (zs:List Str) (ps:List (Str × Str)):Prop:=IsHs H hv zs/\IsTs H zs tv ps/\Conn zs ps
theorem pair_inj {p q:Str × Str} (h:pairV p=pairV q):p=q:=by
 obtain ⟨p1,p2⟩:=p
 obtain ⟨q1,q2⟩:=q
 injection h with h1 h2;injection h2 with h2 _
 injection h1 with h1;injection h2 with h2
 exact Prod.ext h1 h2
theorem IsTs.inj {H:Hp} {zs:List Str} {v:V} {ps qs:List (Str × Str)} (h:IsTs H zs v ps) (g:IsTs H zs v qs):ps=qs:=by
 obtain ⟨a,rfl,⟨as,e1,r1⟩,_⟩:=h
 obtain ⟨b,e,⟨bs,e2,r2⟩,_⟩:=g
 cases e
 rw [e1] at e2
 injection e2 with e2;injection e2 with e2
 have e3:=(List.map_inj_right (fun x y e=>by injection e)).mp e2
 subst e3
 have go:∀ {as:List Addr} {xs ys:List (Str × Str)},Paired (fun q r=>H q=some (.tup r)) as (xs.map pairV)->Paired (fun q r=>H q=some (.tup r)) as (ys.map pairV)->xs=ys:=by
  intro as
  induction as with
  | nil=>
   intro xs ys r1 r2
   cases xs with
   | nil=>cases ys with
    | nil=>rfl
    | cons _ _=>cases r2
   | cons _ _=>cases r1
  | cons a as ih=>
   intro xs ys r1 r2
   cases xs with
   | nil=>cases r1
   | cons x xs=>cases ys with
    | nil=>cases r2
    | cons y ys=>
     cases r1 with
     | cons h1 t1=>cases r2 with
      | cons h2 t2=>
       rw [h1] at h2
       injection h2 with h2;injection h2 with h2
       rw [pair_inj h2,ih t1 t2]
 exact go r1 r2
theorem IsTs.keep {H H':Hp} {zs:List Str} {v:V} {ps:List (Str × Str)} (h:IsTs H zs v ps) (k:Keep [] H H'):IsTs H' zs v ps:=
 let ⟨b,e,r,q⟩:=h
 ⟨b,e,r.keep k,q⟩
theorem IsTs.back {K:PySem.W.Frag} {H H':Hp} {zs:List Str} {v:V} {ps:List (Str × Str)} (d:Dp K H 2 v) (k:Keep [] H H') (h:IsTs H' zs v ps):IsTs H zs v ps:=by
 obtain ⟨b,rfl,⟨qs,e,r⟩,q⟩:=h
 obtain ⟨o,ho⟩:=d.pl.at
 have ho':=k _ _ (by simp) ho
 rw [e] at ho'
 have eo:H b=some (.lst (qs.map V.ref)):=by rw [ho,ho']
 have du:=(d.2 b rfl _ (.inl eo)).2
 refine ⟨b,rfl,⟨qs,eo,?_⟩,q⟩
 clear e eo ho ho' q
 generalize ps.map pairV=rows at r
 induction r with
 | nil=>exact .nil
 | @cons q1 r1 qs rs h1 _ ih=>
  refine .cons ?_ (ih fun u hu=>du u (by rw [List.map_cons];exact List.mem_cons_of_mem _ hu))
  obtain ⟨o1,ho1⟩:=(du (.ref q1) (by rw [List.map_cons];exact List.mem_cons_self)).pl.at
  have:=k _ _ (by simp) ho1
  rw [ho1,<- this];exact h1
def spInitX (K:PySem.W.Frag) (C CT:Addr):Sp:=fun vs H Q E=>∃ (p dx:Addr) (hv tv:V),vs=[.ref p,hv,tv]/\H p=some (.ins C dx [])/\Dp K H 1 hv/\Dp K H 2 tv /\
 (∀ zs ps,IsTree H hv tv zs ps->∀ (zs':List Str) (ps':List (Str × Str)) (H':Hp),zs'.Perm zs->Asc ltS zs'->ps'.Perm (ps.map normP)->Asc ltP ps'->TreeAt H C H' p zs' ps'->Keep [p] H H'->Q .non H') /\
 ((¬ ∃ zs ps,IsTree H hv tv zs ps)->∀ H',Keep [p] H H'->E (.ref CT) none H')
theorem okInitX {fI CT:Addr} {fd:FuncData} (T:TreeT K C) (G:Fun K "__init__" "Tree.__init__" sInit fI fd) (CAH:Cal P w K mg base CX0 3 "are_houses" ["thing"] (spAreHX K)) (CAT:Cal P w K mg base CX0 4 "are_ties" ["thing","houses"] (spAreTX K))
  (CTE:Cal P w K mg base CX0 1 "tied_to_each" ["houses","ties"] spTied) (CST:Cal P w K mg base CX0 1 "steps_toward" ["near","goal"] spSteps) (exT:ExcC K mg "NoTree" CT) (b_sorted:Blt mg "sorted") (b_min:Blt mg "min") (b_max:Blt mg "max") (b_len:Blt mg "len") :
  FnOk P w K mg base (CXE P w) 5 fI fd ["self","houses","ties"] (spInitX K C CT):=by
 refine G.okX scInit (fun vs H Q E h=>by obtain ⟨p,dx,hv,tv,rfl,_⟩:=h;rfl) (fun cdv A outer s0 H vs Q E hr h=>?_)
 obtain ⟨p,dx,hv,tv,rfl,hp,dh,dt,q,qe⟩:=h
 have hr4:Room 4 _:=hr
 have hr3:Room 3 _:=hr.mono (by decide)
 have hr1:Room 1 _:=hr.mono (by decide)
 refine ⟨_,(pss_cons (ps_if (pt_not (pt_val (pe_cal CAH hr3 (pa_cons (pv 1) pa_nil)))) (pss_one (ps_raise (raiseOk_cx hr) exT)) pss_nil)
   (pss_cons (ps_if (pt_not (pt_val (pe_cal CAT hr4 (pa_cons (pv 2) (pa_cons (pv 1) pa_nil))))) (pss_one (ps_raise (raiseOk_cx hr) exT)) pss_nil)
   (pss_cons (ps_fld (pv 0) (pe_blt call_sortedS b_sorted bo_sorted (pa_cons (pv 1) pa_nil)) rfl)
   (pss_cons (ps_fld (pv 0) (pe_blt call_sortedP b_sorted bo_sorted (pa_cons (pe_lc1 (N:=["self","houses","ties"]) (sc:=defScope sInit) (ix:=[]) (by decide +kernel) (pi_list (pv 2)) (fun _ _ _ _=>pts_nil) (fun _ _ _ _=>(pe_tup (pa_cons (pe_blt (call_minT rfl) b_min bo_min (pa_cons (pv 0) pa_nil)) (pa_cons (pe_blt (call_maxT rfl) b_max bo_max (pa_cons (pv 0) pa_nil)) pa_nil))))) pa_nil)) rfl)
   (pss_cons (ps_fld (pv 0) (pe_cal CTE hr1 (pa_cons (pe_fld (pv 0) rfl) (pa_cons (pe_fld (pv 0) rfl) pa_nil))) rfl)
   (pss_one (ps_if (pt_cmpR op_ne (pe_blt call_lenD b_len bo_len (pa_cons (pe_cal CST hr1 (pa_cons (pe_fld (pv 0) rfl) (pa_cons (pe_ix ix_lstH (pe_fld (pv 0) rfl) pe_int (fun _ _=>rfl)) pa_nil))) pa_nil)) (pe_blt call_len b_len bo_len (pa_cons (pe_fld (pv 0) rfl) pa_nil)) (nomark _)) (pss_one (ps_raise (raiseOk_cx hr) exT)) pss_nil))))))),?_⟩
 refine ⟨_,rfl,hv,rfl,dh,fun b1 H1 hb1 k1=>⟨_,rfl,?_⟩⟩
 cases b1 with
 | false=>exact ifT rfl (qe (fun ⟨zs,ps,h,_⟩=>by cases hb1.mpr ⟨zs,h⟩) H1 (k1.mono (by simp)))
 | true=>
 refine ifF rfl ?_
 obtain ⟨zs,isH⟩:=hb1.mp rfl
 obtain ⟨⟨a,rfl,ha,gz⟩,nd,l1⟩:=id isH
 have lz0:=(dh.2 a rfl _ (.inl ha)).1
 rw [List.length_map] at lz0
 refine ⟨_,rfl,_,rfl,tv,a,zs,rfl,dt.keep k1,k1 _ _ (by simp) ha,gz,Nat.le_of_lt lz0,fun b2 H2 hb2 k2=>⟨_,rfl,?_⟩⟩
 cases b2 with
 | false=>exact ifT rfl (qe (fun ⟨ys,ps,h,h2,_⟩=>by rw [h.1.inj isH.1] at h2;cases hb2.mpr ⟨ps,h2.keep k1⟩) H2 ((k1.trans k2).mono (by simp)))
 | true=>
 refine ifF rfl ?_
 obtain ⟨ps,isT1⟩:=hb2.mp rfl
 have isT:=isT1.back dt k1
 obtain ⟨b,rfl,hb,tz,lp⟩:=id isT
 have lz:=lz0
 have k02:=k1.trans k2
 have hp2:=k02 _ _ (by simp) hp
 have ha2:=k02 _ _ (by simp) ha
 have hb2:=hb.keep k02
 refine ⟨_,rfl,a,zs,rfl,ha2,by omega,fun nl zs' hnl pz sz=>?_⟩
 have pnl:p ≠ nl:=ne_of_none hp2 hnl
 refine ⟨_,rfl,p,C,dx,_,rfl,by rw [upd_ne pnl];exact hp2,T.cl,T.nN,by show 0 < 1000;decide,?_⟩
 generalize hH3:upd (upd H2 nl (.lst (zs'.map V.str))) p (.ins C dx (putF "names" (.ref nl) []))=H3
 have k3:Keep [p] H H3:=by rw [<- hH3];exact ((k02.mono (by simp)).trans (Keep.new hnl)).trans (Keep.at (by simp))
 have hp3:H3 p=some (.ins C dx (putF "names" (.ref nl) [])):=by rw [<- hH3];exact upd_same
 have hn3:H3 nl=some (.lst (zs'.map V.str)):=by rw [<- hH3,upd_ne pnl.symm];exact upd_same
 have bnl:H nl=none:=k02.none (by simp) hnl
 obtain ⟨qs,hbl,hbq⟩:=hb
 have bp:b ≠ p:=fun e=>by rw [e,hp] at hbl;cases hbl
 have hbl3:=k3 _ _ (by simp [bp]) hbl
 have npT:∀ u ∈ [p],∀ xs,H u ≠ some (.tup xs):=fun u hu xs e=>by rw [List.mem_singleton.mp hu,hp] at e;cases e
 have hbq3:=paired_far k3 npT hbq
 have lq:=paired_len hbq
 rw [List.length_map] at lq
 refine ⟨_,rfl,b,rfl,⟨_,.of hbl3⟩,fun acc hacc=>?_⟩
 have ba:b ≠ acc:=ne_of_none hbl3 hacc
 have pa:p ≠ acc:=ne_of_none hp3 hacc
 refine lc_list0 (K:=K) (a:=b) (its:=qs.map V.ref) (by rw [List.length_map,sizeLine_eq];omega) (fun i ys τ H4=>∃ (k:Option V) (ts:List Addr),τ=[k]/\ys=ts.map V.ref/\Paired (fun q r=>H4 q=some (.tup r)) ts (((ps.take i).map normP).map pairV)/\Keep [acc] H3 H4/\H4 acc=some (.lst ys)) ?_ ?_ ?_ ?_
 ·exact ⟨_,[],rfl,rfl,.nil,Keep.at (by simp),upd_same⟩
 ·rintro i ys τ H4 ⟨k,ts,rfl,rfl,pt,kp,h4⟩
  refine ⟨h4,?_,.of (kp _ _ (by simp [ba]) hbl3)⟩
  have:=paired_len pt
  rw [List.length_map] at *
  rw [this,List.length_map,List.length_take];omega
 ·rintro i ys τ H4 x hx ⟨k,ts,rfl,rfl,pt,kp,h4⟩
  rw [List.getElem?_map] at hx
  cases et:qs[i]? with
  | none=>rw [et] at hx;cases hx
  | some t=>
  rw [et] at hx
  have ex:V.ref t=x:=Option.some.inj hx
  subst ex
  obtain ⟨r,er,ht⟩:=paired_get hbq3 i t et
  rw [List.getElem?_map] at er
  cases ep:ps[i]? with
  | none=>rw [ep] at er;cases er
  | some pr=>
  rw [ep] at er
  have er':pairV pr=r:=Option.some.inj er
  subst er'
  have ta:t ≠ acc:=ne_of_none ht hacc
  have ht4:=kp _ _ (by simp [ta]) ht
  have tk:ps.take (i + 1)=ps.take i ++ [pr]:=by rw [List.take_add_one,ep];rfl
  refine ⟨_,rfl,t,pr.1,pr.2,rfl,ht4,_,rfl,t,pr.1,pr.2,rfl,ht4,by show 2 <= sizeLine;decide,fun t2 ht2=>?_⟩
  have k5:Keep [] H4 (upd H4 t2 (.tup [.str (minS pr.1 pr.2),.str (maxS pr.1 pr.2)])):=Keep.new ht2
  refine ⟨k5 _ _ (by simp) h4,_,ts ++ [t2],rfl,by rw [List.map_append];rfl,?_,(kp.trans (k5.mono (by simp))).trans (Keep.at (by simp)),upd_same⟩
  rw [tk,List.map_append,List.map_append]
  have a2:acc ≠ t2:=ne_of_none h4 ht2
  refine paired_snoc (paired_far (S:=[acc]) ((k5.mono (by simp)).trans (Keep.at (by simp))) (fun u hu xs e=>by rw [List.mem_singleton.mp hu,h4] at e;cases e) pt) ?_
  rw [upd_ne a2.symm]
  exact upd_same
 rintro ys τ H4 ⟨k,ts,rfl,rfl,pt,kp4,h4⟩
 rw [List.length_map,lq,List.take_length] at pt
 have k34:Keep [] H3 H4:=kp4.drop hacc
 refine ⟨acc,ts,ps.map normP,rfl,h4,pt,by rw [List.length_map];omega,fun pl qs' ps' hpl pp sp hpr=>?_⟩
 have hp4:=k34 _ _ (by simp) hp3
 have ppl:p ≠ pl:=ne_of_none hp4 hpl
 refine ⟨_,rfl,p,C,dx,_,rfl,by rw [upd_ne ppl];exact hp4,T.cl,T.nP,by show 1 < 1000;decide,?_⟩
 rw [tput2]
 generalize hH5:upd (upd H4 pl (.lst (qs'.map V.ref))) p (.ins C dx (tf2 nl pl))=H5
 have k5:Keep [p] H4 H5:=by rw [<- hH5];exact (Keep.new hpl).trans (Keep.at (by simp))
 have hp5:H5 p=some (.ins C dx (tf2 nl pl)):=by rw [<- hH5];exact upd_same
 have hn5:H5 nl=some (.lst (zs'.map V.str)):=k5 _ _ (by simp [pnl.symm]) (k34 _ _ (by simp) hn3)
 have hl5:H5 pl=some (.lst (qs'.map V.ref)):=by rw [<- hH5,upd_ne ppl.symm];exact upd_same
 have hq5:Paired (fun q r=>H5 q=some (.tup r)) qs' (ps'.map pairV):=paired_far k5 (fun u hu xs e=>by rw [List.mem_singleton.mp hu,hp4] at e;cases e) hpr
 have k05:Keep [p] H H5:=(k3.trans (k34.mono (by simp))).trans k5
 have bpl:H pl=none:=(k3.trans (k34.mono (by simp))).none (by simp [ppl.symm]) hpl
 have tz':∀ t ∈ ps',TieOk zs' t:=fun t ht=>by
  obtain ⟨u,hu,e⟩:=List.mem_map.mp (pp.mem_iff.mp ht)
  rw [<- e]
  obtain ⟨a,b,c⟩:=tie_norm (tz u hu)
  exact ⟨pz.mem_iff.mpr a,pz.mem_iff.mpr b,c⟩
 have lps':ps'.length < 60:=by rw [pp.length_eq,List.length_map];omega
 have lzs':zs'.length=zs.length:=pz.length_eq
 have nd':zs'.Nodup:=pz.nodup_iff.mpr nd
 refine ⟨_,rfl,p,C,dx,_,_,rfl,hp5,T.cl,T.nN,rfl,_,rfl,p,C,dx,_,_,rfl,hp5,T.cl,T.nP,rfl,nl,pl,ps',zs',rfl,hn5,⟨qs',hl5,hq5⟩,nd',tz',lps',by omega,fun ndr L N H6 hnd hL na k6=>?_⟩
 have hp6:=k6 _ _ (by simp) hp5
 refine ⟨_,rfl,p,C,dx,_,rfl,hp6,T.cl,T.nR,by show 2 < 1000;decide,?_⟩
 rw [show putF "near" (.ref ndr) (tf2 nl pl)=tfl nl pl ndr from by rw [<- tput2,tput]]
 generalize hH7:upd H6 p (.ins C dx (tfl nl pl ndr))=H7
 have k7:Keep [p] H6 H7:=by rw [<- hH7];exact Keep.at (by simp)
 have hp7:H7 p=some (.ins C dx (tfl nl pl ndr)):=by rw [<- hH7];exact upd_same
 have k57:Keep [p] H5 H7:=(k6.mono (by simp)).trans k7
 have k07:Keep [p] H H7:=k05.trans k57
 have pnd:ndr ≠ p:=fun e=>by rw [e,hp5] at hnd;cases hnd
 have bnd:H ndr=none:=k05.none (by simp [pnd]) hnd
 have pL:∀ z ∈ zs',L z ≠ p:=fun z hz e=>by have:=hL z hz;rw [e,hp5] at this;cases this
 have bL:∀ z ∈ zs',H (L z)=none:=fun z hz=>k05.none (by simp [pL z hz]) (hL z hz)
 have na7:NearAt H7 ndr zs' ps' L N:=⟨k7 _ _ (by simp [pnd]) na.d,fun z hz=>k7 _ _ (by simp [pL z hz]) (na.l z hz),na.p,na.s⟩
 have hn7:=k57 _ _ (by simp [pnl.symm]) hn5
 have hl7:=k57 _ _ (by simp [ppl.symm]) hl5
 have hq7:Paired (fun q r=>H7 q=some (.tup r)) qs' (ps'.map pairV):=paired_far k57 (fun u hu xs e=>by rw [List.mem_singleton.mp hu,hp5] at e;cases e) hq5
 obtain ⟨g,zs1,ez⟩:∃ g zs1,zs'=g :: zs1:=by
  cases e:zs' with
  | nil=>rw [e] at lzs';simp at lzs';omega
  | cons g zs1=>exact ⟨g,zs1,rfl⟩
 have hg:g ∈ zs':=by rw [ez];exact List.mem_cons_self
 refine ⟨_,rfl,p,C,dx,_,_,rfl,hp7,T.cl,T.nR,rfl,_,rfl,p,C,dx,_,_,rfl,hp7,T.cl,T.nN,rfl,nl,_,_,.str g,rfl,rfl,hn7,?_,ndr,zs',ps',L,N,g,rfl,na7,by omega,hg,(fun z hz y hy=>raw_in tz' ((na.p z hz).mem_iff.mp hy)),fun sd ks nx H8 hsd led cl h8 k8=>?_⟩
 ·rw [ez];simp [atI,ixN]
 have same:ks.length=zs'.length ↔ Conn zs ps:=⟨fun e=>conn_back (led_conn na.p led e) pz pp,fun cn=>(led_all (conn_norm cn pz pp) tz' nd' na.p led cl).2⟩
 refine ⟨sd,_,rfl,h8,_,rfl,p,C,dx,_,_,rfl,k8 _ _ (by simp) hp7,T.cl,T.nN,rfl,_,_,rfl,.inl ⟨_,.of (k8 _ _ (by simp) hn7),rfl⟩,rfl,_,rfl,?_⟩
 by_cases cn:Conn zs ps
 ·refine ifF ?_ ?_
  ·rw [dz_len,List.length_map,same.mpr cn];simp
  refine q zs ps ⟨isH,isT,cn⟩ zs' ps' H8 pz sz pp sp ?_ (k07.trans (k8.mono (by simp)))
  exact TreeAt.on ⟨dx,nl,pl,ndr,L,N,⟨bnl,bpl,bnd,bL⟩,hp7,hn7,⟨qs',hl7,hq7⟩,na7⟩ k8
 ·refine ifT ?_ (qe (fun ⟨ys,rs,h,h2,c⟩=>?_) H8 (k07.trans (k8.mono (by simp))))
  ·rw [dz_len,List.length_map]
   have:ks.length ≠ zs'.length:=fun e=>cn (same.mp e)
   simpa using fun e:((ks.length:Nat):Int)=(zs'.length:Int)=>this (Int.ofNat.inj e)
  ·have e:=h.1.inj isH.1
   subst e
   rw [h2.inj isT] at c
   exact cn c
end
structure Kn (K:PySem.W.Frag) (mg:Str->Option Value) (cs:Nat->Addr):Prop where
 g0:Glo mg "NoTree" (.ref (cs 0))
 g1:Glo mg "NoHouse" (.ref (cs 1))
 g2:Glo mg "NoSeat" (.ref (cs 2))
 g3:Glo mg "NoAsker" (.ref (cs 3))
 g4:Glo mg "NoLetter" (.ref (cs 4))
 g5:Glo mg "NoRight" (.ref (cs 5))
 g6:Glo mg "NoRow" (.ref (cs 6))
 g7:Glo mg "NoTie" (.ref (cs 7))
 g8:Glo mg "Down" (.ref (cs 8))
 g9:Glo mg "NoMend" (.ref (cs 9))
 g10:Glo mg "NoText" (.ref (cs 10))
 g11:Glo mg "NoLine" (.ref (cs 11))
 kd:∀ i j,i < 12->j < 12->PySem.W.kitOne K (.ref (cs i)) (.ref (cs j))=some (decide (i=j))
 kv:∀ i,i < 12->PySem.W.kitOne K (.ref (cs i)) (.type "ValueError")=some true
 ke:∀ i,i < 12->ExcK K (cs i)
abbrev sMk:Stmt:=top 43
section
variable {P:Program} {w:World} {K:PySem.W.Frag} {mg:Str->Option Value} {base:Heap} {C:Addr}
theorem scMk:FnScope ["_law_houses","_law_ties","_law_told","_law_tree_here","e","_law_others"] ["_law_houses","_law_ties"] (defScope sMk):=⟨rfl,rfl,rfl,by decide +kernel,rfl,by decide +kernel,by decide +kernel⟩
theorem kit_no {cs:Nat->Addr} (kn:Kn K mg cs):∀ (l:List Nat),(∀ j ∈ l,j < 12/\j ≠ 0)->PySem.W.kitAny K (.ref (cs 0)) ((l.map cs).map Value.ref)=some false:=by
 intro l
 induction l with
 | nil=>intro _;rfl
 | cons j l ih=>
  intro h
  obtain ⟨h1,h2⟩:=h j List.mem_cons_self
  show (match PySem.W.kitOne K (.ref (cs 0)) (.ref (cs j)) with | some true=>some true | some false=>PySem.W.kitAny K (.ref (cs 0)) ((l.map cs).map Value.ref) | none=>none)=_
  rw [kn.kd 0 j (by decide) h1,decide_eq_false (fun e=>h2 e.symm)]
  exact ih fun i hi=>h i (List.mem_cons_of_mem _ hi)
theorem IsNs.back {H H':Hp} {v:V} {zs:List Str} {n:Nat} (d:Dp K H n v) (k:Keep [] H H') (h:IsNs H' v zs):IsNs H v zs:=by
 obtain ⟨a,rfl,e,g⟩:=h
 obtain ⟨o,ho⟩:=d.pl.at
 have ho':=k _ _ (by simp) ho
 rw [e] at ho'
 exact ⟨a,rfl,by rw [ho,ho'],g⟩
theorem IsTree.back {H H':Hp} {hv tv:V} {zs:List Str} {ps:List (Str × Str)} (dh:Dp K H 1 hv) (dt:Dp K H 2 tv) (k:Keep [] H H') (h:IsTree H' hv tv zs ps):IsTree H hv tv zs ps:=⟨⟨h.1.1.back dh k,h.1.2⟩,h.2.1.back dt k,h.2.2⟩
theorem IsTree.keep {H H':Hp} {hv tv:V} {zs:List Str} {ps:List (Str × Str)} (k:Keep [] H H') (h:IsTree H hv tv zs ps):IsTree H' hv tv zs ps:=⟨⟨h.1.1.keep k,h.1.2⟩,h.2.1.keep k,h.2.2⟩
def spMk (K:PySem.W.Frag):Sp:=fun vs H Q _=>∃ hv tv,vs=[hv,tv]/\Dp K H 1 hv/\Dp K H 2 tv /\
 (∀ zs ps,IsTree H hv tv zs ps->∀ (r hl tl:Addr) (zs':List Str) (ps':List (Str × Str)) (H':Hp),zs'.Perm zs->Asc ltS zs'->ps'.Perm (ps.map normP)->Asc ltP ps'->H' r=some (.tup [.ref hl,.ref tl])->H' hl=some (.lst (zs'.map V.str))->Rows H' tl (ps'.map pairV)->Keep [] H H'->Q (.ref r) H') /\
 ((¬ ∃ zs ps,IsTree H hv tv zs ps)->∀ H',Keep [] H H'->Q (.str "none") H')
theorem okMk {cs:Nat->Addr} {DC:Addr} (kn:Kn K mg cs) (T:TreeT K C) (G:FunG K mg "_law_made" sMk ["_law_houses","_law_ties"]) (MKX:MkCal P w K mg base (CXE P w) 5 C "Tree" ["self","houses","ties"] (spInitX K C (cs 0))) (MH:MCal P w K mg base CX0 1 C "houses" ["self"] (spHouses C)) (MT:MCal P w K mg base CX0 1 C "ties" ["self"] (spTies C))
  (hm:mg "TreeError"=some (.ref DC)) (hx:PySem.W.exmOne K (.ref (cs 0)) (.ref DC)=some true) (b_isinstance:Blt mg "isinstance") (b_int:Blt mg "int") (b_ValueError:Blt mg "ValueError"):Cal P w K mg base CX0 7 "_law_made" ["_law_houses","_law_ties"] (spMk K):=by
 refine G.ok scMk (fun vs H Q E h=>by obtain ⟨hv,tv,rfl,_⟩:=h;rfl) (fun f cdv A outer s0 H vs Q E hr h=>?_)
 obtain ⟨hv,tv,rfl,dh,dt,q,qe⟩:=h
 have hr6:Room 6 _:=hr
 have hr1:Room 1 _:=hr.mono (by decide)
 refine ⟨_,(pss_cons (ps_set (i:=2) scMk.nd rfl (Or.inl rfl) pe_non) (pss_cons (ps_tryN (i:=4) (th:=(fun _=>tSeq (tAsg (tCB (rIsEs K) (tCons (tVar 4) (tCons (tTup (tCons (tC (.ref (cs 8))) (tCons (tC (.ref (cs 3))) (tCons (tC (.ref (cs 1))) (tCons (tC (.ref (cs 4))) (tCons (tC (.ref (cs 11))) (tCons (tC (.ref (cs 9))) tNil))))))) tNil))) (gName 5)) (tSeq (tAsg (tOrV (tVar 5) (tCB (rIsEs K) (tCons (tVar 4) (tCons (tTup (tCons (tC (.ref (cs 5))) (tCons (tC (.ref (cs 6))) (tCons (tC (.ref (cs 2))) (tCons (tC (.ref (cs 10))) (tCons (tC (.ref (cs 7))) tNil)))))) tNil)))) (gName 5)) (tAsg (tOp rIxH (tLst (tCons (tC (.str "other")) (tCons (tC (.str "none")) tNil))) (tCB (fun xs H Q=>(∃ i,xs=[V.int i]/\Q (.int i) H) \/ ∃ k,xs=[V.bl k]/\Q (.int (if k then 1 else 0)) H) (tCons (tAndV (tCB (rIsE K (.ref (cs 0)) (.ref (cs 0))) (tCons (tVar 4) (tCons (tC (.ref (cs 0))) tNil))) (tAndV (tCB (rIsE K (.ty "ValueError") (.type "ValueError")) (tCons (tVar 4) (tCons (tC (.ty "ValueError")) tNil))) (tNotV (tVar 5)))) tNil))) (gName 2))))) hm scMk.nd rfl rfl (fun pn' xe' E1 hp=>(pss_cons (ps_set (i:=3) scMk.nd rfl (Or.inl rfl) (pe_mkX MKX hp hr6 (pa_cons (pv 0) (pa_cons (pv 1) pa_nil)))) (pss_one (ps_set (i:=2) scMk.nd rfl (Or.inl rfl) (pe_tup (pa_cons (pe_mth0 MH T.cl hr1 (pv 3)) (pa_cons (pe_mth0 MT T.cl hr1 (pv 3)) pa_nil))))))) (fun pn' a=>(pss_cons (ps_set (i:=5) scMk.nd rfl (Or.inl rfl) (pe_blt call_isEs b_isinstance bo_isinstance (pa_cons (pv 4) (pa_cons (pe_tup (pa_cons (pe_glo kn.g8) (pa_cons (pe_glo kn.g3) (pa_cons (pe_glo kn.g1) (pa_cons (pe_glo kn.g4) (pa_cons (pe_glo kn.g11) (pa_cons (pe_glo kn.g9) pa_nil))))))) pa_nil)))) (pss_cons (ps_set (i:=5) scMk.nd rfl (Or.inl rfl) (pe_or (pv 5) (pe_one (pe_blt call_isEs b_isinstance bo_isinstance (pa_cons (pv 4) (pa_cons (pe_tup (pa_cons (pe_glo kn.g5) (pa_cons (pe_glo kn.g6) (pa_cons (pe_glo kn.g2) (pa_cons (pe_glo kn.g10) (pa_cons (pe_glo kn.g7) pa_nil)))))) pa_nil)))))) (pss_one (ps_set (i:=2) scMk.nd rfl (Or.inl rfl) (pe_ix ix_lstH (pe_lst (pa_cons pe_str (pa_cons pe_str pa_nil))) (pe_callTy call_int1 rfl b_int.no bo_int (pa_cons (pe_and (pe_blt (call_isE (D:=cs 0)) b_isinstance bo_isinstance (pa_cons (pv 4) (pa_cons (pe_glo kn.g0) pa_nil))) (pe_and (pe_blt (call_isET (T:="ValueError")) b_isinstance bo_isinstance (pa_cons (pv 4) (pa_cons (pe_ty b_ValueError bo_ValueError) pa_nil))) (pe_one (pe_not (pv 5))))) pa_nil)) (fun _ _=>rfl)))))))) (pss_one (ps_ret (pv 2))))),?_⟩
 have ke:=kn.ke 0 (by decide)
 refine ⟨_,rfl,_,rfl,fun x dx hx' hdx ndx=>?_⟩
 have k0:Keep [] H (upd (upd H dx (.own x)) x (.ins C dx [])):=(Keep.new hdx).trans (Keep.new (by rw [upd_ne (Ne.symm ndx)];exact hx'))
 refine ⟨x,dx,hv,tv,rfl,upd_same,dh.keep k0,dt.keep k0,fun zs ps isT zs' ps' H' pz sz pp sp tr kp=>⟨rfl,?_⟩,fun no H1 kp=>?_⟩
 ·have kH:Keep [] H H':=k0.under kp (by intro b hb;rw [List.mem_singleton.mp hb];exact hx')
  obtain ⟨dx',nl,pl,nd,L,N,bb,h1,h2⟩:=id tr
  refine ⟨_,rfl,x,dx',_,rfl,h1,rfl,x,_,zs',ps',rfl,tr,fun hl hhl=>?_⟩
  have k1:Keep [] H' (upd H' hl (.lst (zs'.map V.str))):=Keep.new hhl
  have e1:upd H' hl (.lst (zs'.map V.str)) hl=some (.lst (zs'.map V.str)):=upd_same
  generalize upd H' hl (.lst (zs'.map V.str))=H2 at k1 e1 ⊢
  have tr2:=tr.on k1
  refine ⟨_,rfl,x,dx',_,rfl,k1 _ _ (by simp) h1,rfl,x,_,zs',ps',rfl,tr2,fun tl H3 htl R3 k2=>⟨by show 2 <= sizeLine;decide,fun r hr'=>?_⟩⟩
  have k3:Keep [] H3 (upd H3 r (.tup [.ref hl,.ref tl])):=Keep.new hr'
  exact ⟨_,rfl,q zs ps (isT.back dh dt k0) r hl tl zs' ps' _ pz sz pp sp upd_same ((k2.trans k3) _ _ (by simp) e1) (R3.keep k3) (((kH.trans k1).trans k2).trans k3)⟩
 ·have kH:Keep [] H H1:=k0.under kp (by intro b hb;rw [List.mem_singleton.mp hb];exact hx')
  refine ⟨cs 0,rfl,hx,fun a σ' hl ha=>?_⟩
  match σ',hl with
  | [s0,s1,s2,s3,s4,s5],_=>
  have k2:Keep [] H1 (upd H1 a (excO (cs 0) a)):=Keep.new ha
  have ha2:upd H1 a (excO (cs 0) a) a=some (excO (cs 0) a):=upd_same
  generalize upd H1 a (excO (cs 0) a)=H2 at k2 ha2
  refine ⟨_,rfl,by show 6 <= sizeLine;decide,fun t ht=>?_⟩
  have k3:Keep [] H2 (upd H2 t (.tup [.ref (cs 8),.ref (cs 3),.ref (cs 1),.ref (cs 4),.ref (cs 11),.ref (cs 9)])):=Keep.new ht
  refine ⟨a,cs 0,t,[8,3,1,4,11,9].map cs,false,rfl,k3 _ _ (by simp) ha2,ke,upd_same,kit_no kn _ (by decide),?_⟩
  have ha3:=k3 _ _ (by simp) ha2
  generalize upd H2 t (.tup [.ref (cs 8),.ref (cs 3),.ref (cs 1),.ref (cs 4),.ref (cs 11),.ref (cs 9)])=H3 at k3 ha3
  refine ⟨_,rfl,_,rfl,ifF rfl ?_⟩
  refine ⟨_,rfl,by show 5 <= sizeLine;decide,fun t2 ht2=>?_⟩
  have k4:Keep [] H3 (upd H3 t2 (.tup [.ref (cs 5),.ref (cs 6),.ref (cs 2),.ref (cs 10),.ref (cs 7)])):=Keep.new ht2
  refine ⟨a,cs 0,t2,[5,6,2,10,7].map cs,false,rfl,k4 _ _ (by simp) ha3,ke,upd_same,kit_no kn _ (by decide),?_⟩
  have ha4:=k4 _ _ (by simp) ha3
  generalize upd H3 t2 (.tup [.ref (cs 5),.ref (cs 6),.ref (cs 2),.ref (cs 10),.ref (cs 7)])=H4 at k4 ha4
  refine ⟨by show 2 <= sizeLine;decide,fun dl hdl=>?_⟩
  have k5:Keep [] H4 (upd H4 dl (.lst [.str "other",.str "none"])):=Keep.new hdl
  have ha5:=k5 _ _ (by simp) ha4
  refine ⟨_,rfl,a,cs 0,true,rfl,ha5,ke,by rw [kn.kd 0 0 (by decide) (by decide)];rfl,_,rfl,ifT rfl ?_⟩
  refine ⟨_,rfl,a,cs 0,true,rfl,ha5,ke,kn.kv 0 (by decide),_,rfl,ifT rfl ?_⟩
  refine ⟨_,rfl,_,rfl,.inr ⟨true,rfl,dl,_,1,_,rfl,rfl,upd_same,rfl,?_⟩⟩
  exact ⟨_,rfl,qe (fun ⟨zs,ps,h⟩=>no ⟨zs,ps,h.keep k0⟩) _ (kH.trans (k2.trans (k3.trans (k4.trans k5))))⟩
end
end K03
namespace L2
open PySem PySem.Spec PyProof.Rows
theorem lc_tup0 {K:PySem.W.Frag} {a:Addr} {its:List V} {xs:List Str} {ix:List Nat} {g:TG} {te:TE} {σ:St} {H1:Hp} {Q:VK} {acc:Addr} (hn:its.length < sizeLine) (Pv:Nat->List V->St->Hp->Prop)
  (h0:Pv 0 [] (stC xs ix σ) (upd H1 acc (.lst []))) (hacc:∀ i ys τ H,Pv i ys τ H->H acc=some (.lst ys)/\ys.length <= i/\SqT K H a its)
  (hs:∀ i ys τ H x,its[i]?=some x->Pv i ys τ H->g x τ H fun τ2 H2=>te τ2 H2 fun y H4=>H4 acc=some (.lst ys)/\Pv (i + 1) (ys ++ [y]) τ2 (upd H4 acc (.lst (ys ++ [y]))))
  (hd:∀ ys τ H,Pv its.length ys τ H->Q (.ref acc) H):LCW (Itt K a) xs ix g tYes te σ H1 acc Q:=by
 refine ⟨fun i m ys τ H=>m=its.length - i/\i <= its.length/\Pv i ys τ H,⟨its.length,by simp,Nat.zero_le _,h0⟩,?_⟩
 rintro i m ys τ H ⟨rfl,hi,p⟩
 obtain ⟨c1,c2,c3⟩:=hacc i ys τ H p
 refine ⟨c1,by omega,?_⟩
 by_cases hlt:i < its.length
 ·refine .inr ⟨⟨its,its[i],c3,by simp [hlt]⟩,Pv (i + 1),fun ys' τ' H' p'=>⟨its.length - (i + 1),by omega,rfl,hlt,p'⟩,fun x H' y=>?_⟩
  obtain ⟨e,y⟩:=y
  subst e
  exact yes_in (R:=fun τ2 _=>fun y H4=>H4 acc=some (.lst ys)/\Pv (i + 1) (ys ++ [y]) τ2 (upd H4 acc (.lst (ys ++ [y])))) (hs i ys τ _ x (y its c3) p)
 ·have e:i=its.length:=by omega
  subst e
  exact .inl ⟨⟨its,c3,Nat.le_refl _⟩,hd ys τ H p⟩
end L2
namespace K03
open PySem L2
abbrev sLN:Stmt:=top 37
section
variable {P:Program} {w:World} {K:PySem.W.Frag} {mg:Str->Option Value} {base:Heap} {C:Addr}
theorem scLN:FnScope ["_law_thing"] ["_law_thing"] (defScope sLN):=⟨rfl,rfl,rfl,by decide +kernel,rfl,by decide +kernel,by decide +kernel⟩
def spLN (K:PySem.W.Frag):Sp:=fun vs H Q _=>∃ x,vs=[x]/\Pl K H x/\∀ H',Keep [] H H'->Q (.bl (nameV x)) H'
theorem okLN (G:FunG K mg "_law_is_name" sLN ["_law_thing"]) (b_isinstance:Blt mg "isinstance") (b_str:Blt mg "str") (b_len:Blt mg "len") (b_all:Blt mg "all"):Cal P w K mg base CX0 1 "_law_is_name" ["_law_thing"] (spLN K):=by
 refine G.ok scLN (fun vs H Q E h=>by obtain ⟨x,rfl,_⟩:=h;rfl) (fun f cdv A outer s H vs Q E hr h=>?_)
 obtain ⟨x,rfl,⟨⟨T,pt⟩,hz⟩,q⟩:=h
 refine ⟨_,(pss_cons (ps_if (PW.pt (pw_or (pt_not (pt_val (pe_blt call_isinst b_isinstance bo_isinstance (pa_cons (pv 0) (pa_cons (pe_ty b_str bo_str) pa_nil))))) (pw_or1 (pt_not (pt_chain op_le op_le pe_int (pe_blt call_len b_len bo_len (pa_cons (pv 0) pa_nil)) pe_int))))) (pss_one (ps_ret pe_bl)) pss_nil)
   (pss_one (ps_ret (pe_blt (call_all rfl) b_all bo_all (pa_cons (pe_lc1 (N:=["_law_thing"]) (sc:=defScope sLN) (ix:=[]) (by decide +kernel) (pi_str (pv 0)) (fun _ _ _ _=>pts_nil) (fun _ _ _ _=>(pe_cmpR op_in_str (pv 0) pe_str (by with_unfolding_all rfl)))) pa_nil))))),?_⟩
 refine ⟨_,rfl,_,_,_,_,rfl,pt.ty,pt.kit.1,_,rfl,?_⟩
 cases pt with
 | str z=>
  have hz:=hz z rfl
  refine ifF rfl ?_
  refine ⟨_,rfl,_,z.length,rfl,⟨by rw [sizeLine_eq];omega,rfl⟩,_,_,rfl,rfl,_,rfl,?_⟩
  refine ite2 (fun h1=>?_) (fun h1=>?_)
  ·refine ⟨_,_,rfl,rfl,_,rfl,?_⟩
   by_cases h2:z.length <= 8
   ·refine ifF (by show (!decide ((z.length:Int) <= 8))=false;rw [decide_eq_true (by omega)];rfl) ?_
    refine ⟨_,rfl,z,rfl,fun acc ha=>?_⟩
    refine lc_str0 (by rw [sizeLine_eq];show z.length < _;omega) (fun i ys τ H2=>∃ (k:Option V),τ=[k]/\ys=(z.cps.toList.take i).map (fun c=>V.bl (letterB c))/\i <= z.cps.size/\Keep [acc] H H2/\H2 acc=some (.lst ys)) ?_ ?_ ?_ ?_
    ·exact ⟨_,rfl,rfl,Nat.zero_le _,Keep.at (by simp),upd_same⟩
    ·rintro i ys τ H2 ⟨k,rfl,rfl,hi,kp,h3⟩
     exact ⟨h3,by simp;omega⟩
    ·rintro i ys τ H2 hi ⟨k,rfl,rfl,_,kp,h3⟩
     refine ⟨_,rfl,_,_,rfl,rfl,h3,_,rfl,?_,hi,kp.trans (Keep.at (by simp)),upd_same⟩
     rw [List.take_add_one,List.map_append]
     congr 1
     have e:z.cps.toList[i]?=some (z.cps.getD i 0):=by
      rw [Array.getElem?_toList,Array.getD_eq_getD_getElem?,Array.getElem?_eq_getElem hi];rfl
     rw [e];rfl
    ·rintro ys τ H2 ⟨k,rfl,rfl,_,kp,h3⟩
     refine ⟨acc,z.cps.toList.map letterB,rfl,.of ?_,?_⟩
     ·rw [h3,List.take_of_length_le (by simp),List.map_map];rfl
     ·rw [all_map_id]
      have e:nameV (.str z)=z.cps.toList.all letterB:=by
       show (decide (1 <= z.length) && decide (z.length <= 8) && _)=_
       have e1:1 <= z.length:=by have:=of_decide_eq_true h1;omega
       rw [decide_eq_true e1,decide_eq_true h2];rfl
      rw [<- e]
      exact q _ (kp.drop ha)
   ·refine ifT (by show (!decide ((z.length:Int) <= 8))=true;rw [decide_eq_false (by omega)];rfl) ?_
    have e:nameV (.str z)=false:=by
     show (decide (1 <= z.length) && decide (z.length <= 8) && _)=_
     rw [decide_eq_false h2];simp
    rw [<- e]
    exact q _ (Keep.refl _)
  ·have e:nameV (.str z)=false:=by
    show (decide (1 <= z.length) && decide (z.length <= 8) && _)=_
    have e2:¬ 1 <= z.length:=fun z'=>h1 (decide_eq_true (by omega))
    rw [decide_eq_false e2];simp
   refine ⟨_,rfl,ifT rfl ?_⟩
   rw [<- e]
   exact q _ (Keep.refl _)
 | _=>exact ifT rfl (q H (Keep.refl _))
theorem met_congr {val val':Nat->Str}:∀ (n:Nat),(∀ i,i < n->val i=val' i)->metS val n=metS val' n
 | 0,_=>rfl
 | n + 1,h=>by
  have ih:=met_congr n fun i hi=>h i (Nat.lt_succ_of_lt hi)
  show (if (metS val n).any (· == val n) then metS val n else metS val n ++ [val n])=(if (metS val' n).any (· == val' n) then metS val' n else metS val' n ++ [val' n])
  rw [ih,h n (Nat.lt_succ_self _)]
theorem many_snoc (m:List Str) (a:Str):manyS (m ++ [a])=if a ∈ m then manyS m else manyS m + 1:=by
 have e:metS (fun i=>(m ++ [a]).getD i Str.empty) m.length=metS (fun i=>m.getD i Str.empty) m.length:=met_congr _ fun i hi=>by
  show (m ++ [a]).getD i Str.empty=m.getD i Str.empty
  rw [List.getD_eq_getElem?_getD,List.getD_eq_getElem?_getD,List.getElem?_append_left hi]
 have el:(m ++ [a]).getD m.length Str.empty=a:=by
  rw [List.getD_eq_getElem?_getD,List.getElem?_append_right (Nat.le_refl _)]
  simp
 unfold manyS
 rw [List.length_append,List.length_singleton,metS_len,e]
 show (if (metS (fun i=>m.getD i Str.empty) m.length).any (· == (m ++ [a]).getD m.length Str.empty) then _ else _)=_
 rw [el]
 by_cases h:a ∈ m
 ·rw [if_pos h,if_pos]
  obtain ⟨j,hj,q⟩:=List.getElem_of_mem h
  exact (metS_in _ a _).mpr ⟨j,hj,by rw [List.getD_eq_getElem?_getD,List.getElem?_eq_getElem hj];exact q⟩
 ·rw [if_neg h,if_neg]
  intro q
  obtain ⟨j,hj,e⟩:=(metS_in _ a _).mp q
  rw [List.getD_eq_getElem?_getD,List.getElem?_eq_getElem hj] at e
  exact h (by rw [<- e];exact List.getElem_mem hj)
structure Mkd (zs:List Str) (ps:List (Str × Str)) (h0:Str) (m ks:List Str):Prop where
 nd:ks.Nodup
 mem:∀ y,y ∈ ks ↔ y ∈ m
 sub:∀ y ∈ m,y ∈ zs
 many:manyS m=ks.length
 len:m.length + 1=2 * ks.length
 hm:h0 ∈ m
 reach:∀ (P:Str->Prop),(∀ t ∈ ps,P t.1 ↔ P t.2)->∀ y ∈ m,(P h0 ↔ P y)
def even (m:List Str) (t:Str × Str):Prop:=t.1 ∈ m ↔ t.2 ∈ m
theorem Mkd.start {zs:List Str} {ps:List (Str × Str)} {h0:Str} (h:h0 ∈ zs):Mkd zs ps h0 [h0] [h0]:=
 ⟨List.nodup_cons.mpr ⟨List.not_mem_nil,List.nodup_nil⟩,fun _=>Iff.rfl,fun y hy=>by rw [List.mem_singleton.mp hy];exact h,by rw [manyS_nodup (List.nodup_cons.mpr ⟨List.not_mem_nil,List.nodup_nil⟩)],rfl,List.mem_singleton.mpr rfl,fun P _ y hy=>by rw [List.mem_singleton.mp hy]⟩
theorem Mkd.more {zs:List Str} {ps:List (Str × Str)} {h0:Str} {m ks:List Str} (M:Mkd zs ps h0 m ks) {t:Str × Str} (ht:t ∈ ps) (tz:TieOk zs t) (odd:¬ even m t):∃ ks',Mkd zs ps h0 (m ++ [t.1,t.2]) ks'/\ks'.length=ks.length + 1:=by
 obtain ⟨z1,z2,ne⟩:=tz
 have app:m ++ [t.1,t.2]=(m ++ [t.1]) ++ [t.2]:=by simp
 have sub:∀ y ∈ m ++ [t.1,t.2],y ∈ zs:=fun y hy=>by
  rcases List.mem_append.mp hy with h | h
  ·exact M.sub y h
  ·simp only [List.mem_cons,List.not_mem_nil,or_false] at h
   rcases h with rfl | rfl
   ·exact z1
   ·exact z2
 have reach:∀ (P:Str->Prop),(∀ t ∈ ps,P t.1 ↔ P t.2)->∀ y ∈ m ++ [t.1,t.2],(P h0 ↔ P y):=fun P each y hy=>by
  rcases List.mem_append.mp hy with h | h
  ·exact M.reach P each y h
  ·have e:=each t ht
   have one:P h0 ↔ P t.1:=by
    by_cases c1:t.1 ∈ m
    ·exact M.reach P each _ c1
    ·by_cases c2:t.2 ∈ m
     ·exact (M.reach P each _ c2).trans e.symm
     ·exact absurd (iff_of_false c1 c2) odd
   simp only [List.mem_cons,List.not_mem_nil,or_false] at h
   rcases h with rfl | rfl
   ·exact one
   ·exact one.trans e
 have len:∀ y,(m ++ [t.1,t.2]).length + 1=2 * (ks ++ [y]).length:=fun y=>by
  rw [List.length_append,List.length_append]
  have:=M.len
  show m.length + 2 + 1=2 * (ks.length + 1)
  omega
 by_cases c1:t.1 ∈ m
 ·have c2:t.2 ∉ m:=fun c2=>odd (iff_of_true c1 c2)
  refine ⟨ks ++ [t.2],⟨?_,fun y=>?_,sub,?_,len _,List.mem_append_left _ M.hm,reach⟩,by rw [List.length_append];rfl⟩
  ·exact List.nodup_append.mpr ⟨M.nd,List.nodup_cons.mpr ⟨List.not_mem_nil,List.nodup_nil⟩,fun a ha b hb e=>c2 ((M.mem _).mp (by rw [<- List.mem_singleton.mp hb,<- e];exact ha))⟩
  ·rw [List.mem_append,List.mem_append,M.mem y]
   simp only [List.mem_cons,List.not_mem_nil,or_false]
   exact ⟨fun h=>h.elim .inl (fun e=>.inr (.inr e)),fun h=>h.elim .inl (fun h=>h.elim (fun e=>.inl (by rw [e];exact c1)) .inr)⟩
  ·rw [app,many_snoc,many_snoc,if_pos c1,if_neg,M.many,List.length_append]
   ·rfl
   ·intro h
    rcases List.mem_append.mp h with h | h
    ·exact c2 h
    ·exact ne (List.mem_singleton.mp h).symm
 ·have c2:t.2 ∈ m:=Classical.byContradiction fun c2=>odd (iff_of_false c1 c2)
  refine ⟨ks ++ [t.1],⟨?_,fun y=>?_,sub,?_,len _,List.mem_append_left _ M.hm,reach⟩,by rw [List.length_append];rfl⟩
  ·exact List.nodup_append.mpr ⟨M.nd,List.nodup_cons.mpr ⟨List.not_mem_nil,List.nodup_nil⟩,fun a ha b hb e=>c1 ((M.mem _).mp (by rw [<- List.mem_singleton.mp hb,<- e];exact ha))⟩
  ·rw [List.mem_append,List.mem_append,M.mem y]
   simp only [List.mem_cons,List.not_mem_nil,or_false]
   exact ⟨fun h=>h.elim .inl (fun e=>.inr (.inl e)),fun h=>h.elim .inl (fun h=>h.elim .inr (fun e=>.inl (by rw [e];exact c2)))⟩
  ·rw [app,many_snoc,many_snoc,if_neg c1,if_pos,M.many,List.length_append]
   ·rfl
   ·exact List.mem_append_left _ c2
theorem Mkd.size {zs:List Str} {ps:List (Str × Str)} {h0:Str} {m ks:List Str} (M:Mkd zs ps h0 m ks):ks.length <= zs.length:=nodup_le M.nd fun y hy=>M.sub y ((M.mem y).mp hy)
theorem Mkd.conn {zs:List Str} {ps:List (Str × Str)} {h0:Str} {m ks:List Str} (M:Mkd zs ps h0 m ks) (nd:zs.Nodup) (hz:h0 ∈ zs) (cl:∀ t ∈ ps,even m t):manyS m=zs.length ↔ Conn zs ps:=by
 rw [M.many]
 constructor
 ·intro e P z0 hz0 p0 each z hz
  have all:∀ z ∈ zs,z ∈ m:=fun z hz=>by
   apply Classical.byContradiction
   intro no
   have:=nodup_le (ks:=z :: ks) (zs:=zs) (List.nodup_cons.mpr ⟨fun h=>no ((M.mem z).mp h),M.nd⟩) (fun y hy=>by
    rcases List.mem_cons.mp hy with rfl | hy
    ·exact hz
    ·exact M.sub y ((M.mem y).mp hy))
   rw [List.length_cons] at this
   omega
  exact (M.reach P each z (all z hz)).mp ((M.reach P each z0 (all z0 hz0)).mpr p0)
 ·intro c
  have all:=c (· ∈ m) h0 hz M.hm cl
  exact Nat.le_antisymm M.size (nodup_le nd fun z hz=>(M.mem z).mpr (all z hz))
end
abbrev sIT:Stmt:=top 38
section
variable {P:Program} {w:World} {K:PySem.W.Frag} {mg:Str->Option Value} {base:Heap} {C:Addr}
theorem scIT:FnScope ["_law_houses","_law_ties","_law_tie","_law_marked","_law_turn","_law_one","_law_other"] ["_law_houses","_law_ties"] (defScope sIT):=⟨rfl,rfl,rfl,by decide +kernel,rfl,by decide +kernel,by decide +kernel⟩
theorem lc_nms {a acc:Addr} {us:List V} {xs:List Str} {ix:List Nat} {te:TE} {σ:St} {H1:Hp} {Q:VK} (hn:us.length < 60) (ha:H1 acc=none) (hS:H1 a=some (.lst us)) (pl:∀ u ∈ us,Pl K H1 u) (hσ:stC xs ix σ=[none])
  (hte:∀ (u:V) (H:Hp) (R:VK),Pl K H u->(∀ H',Keep [] H H'->R (.bl (nameV u)) H')->te [some u] H R) (q:∀ H',H' acc=some (.lst ((us.map nameV).map V.bl))->Keep [] H1 H'->Q (.ref acc) H'):LCW (Itl K a) xs ix (gName 0) tYes te σ H1 acc Q:=by
 have aa:a ≠ acc:=ne_of_none hS ha
 refine lc_list0 (K:=K) (a:=a) (its:=us) (by rw [sizeLine_eq];omega) (fun i ys τ H2=>∃ k:Option V,τ=[k]/\ys=((us.take i).map nameV).map V.bl/\Keep [acc] H1 H2/\H2 acc=some (.lst ys)) ?_ ?_ ?_ ?_
 ·exact ⟨_,hσ,rfl,Keep.at (by simp),upd_same⟩
 ·rintro i ys τ H2 ⟨k,rfl,rfl,kp,h1⟩
  exact ⟨h1,by simp;omega,.of (kp _ _ (by simp [aa]) hS)⟩
 ·rintro i ys τ H2 x hx ⟨k,rfl,rfl,kp,h1⟩
  refine hte x H2 _ ((pl x (List.mem_of_getElem? hx)).acc kp ha) fun H3 k3=>⟨k3 _ _ (by simp) h1,_,rfl,?_,(kp.trans (k3.mono (by simp))).trans (Keep.at (by simp)),upd_same⟩
  rw [List.take_add_one,hx,List.map_append,List.map_append];rfl
 ·rintro ys τ H2 ⟨k,rfl,rfl,kp,h1⟩
  rw [List.take_of_length_le (Nat.le_refl _)] at h1
  exact q H2 h1 (kp.drop ha)
theorem lc_nmsT {a acc:Addr} {us:List V} {xs:List Str} {ix:List Nat} {te:TE} {σ:St} {H1:Hp} {Q:VK} (hn:us.length < 60) (ha:H1 acc=none) (hS:H1 a=some (.tup us)) (pl:∀ u ∈ us,Pl K H1 u) (hσ:stC xs ix σ=[none])
  (hte:∀ (u:V) (H:Hp) (R:VK),Pl K H u->(∀ H',Keep [] H H'->R (.bl (nameV u)) H')->te [some u] H R) (q:∀ H',H' acc=some (.lst ((us.map nameV).map V.bl))->Keep [] H1 H'->Q (.ref acc) H'):LCW (Itt K a) xs ix (gName 0) tYes te σ H1 acc Q:=by
 have aa:a ≠ acc:=ne_of_none hS ha
 refine lc_tup0 (K:=K) (a:=a) (its:=us) (by rw [sizeLine_eq];omega) (fun i ys τ H2=>∃ k:Option V,τ=[k]/\ys=((us.take i).map nameV).map V.bl/\Keep [acc] H1 H2/\H2 acc=some (.lst ys)) ?_ ?_ ?_ ?_
 ·exact ⟨_,hσ,rfl,Keep.at (by simp),upd_same⟩
 ·rintro i ys τ H2 ⟨k,rfl,rfl,kp,h1⟩
  exact ⟨h1,by simp;omega,.of (kp _ _ (by simp [aa]) hS)⟩
 ·rintro i ys τ H2 x hx ⟨k,rfl,rfl,kp,h1⟩
  refine hte x H2 _ ((pl x (List.mem_of_getElem? hx)).acc kp ha) fun H3 k3=>⟨k3 _ _ (by simp) h1,_,rfl,?_,(kp.trans (k3.mono (by simp))).trans (Keep.at (by simp)),upd_same⟩
  rw [List.take_add_one,hx,List.map_append,List.map_append];rfl
 ·rintro ys τ H2 ⟨k,rfl,rfl,kp,h1⟩
  rw [List.take_of_length_le (Nat.le_refl _)] at h1
  exact q H2 h1 (kp.drop ha)
theorem atH0 {α:Type} (x:α) (l:List α):atI (x :: l) 0=some x:=atI_nat (j:=0) rfl
theorem atH1 {α:Type} (x y:α) (l:List α):atI (x :: y :: l) 1=some y:=atI_nat (j:=1) rfl
theorem inV_dec (z:Str) (m:List Str):inV (.str z) (m.map V.str)=decide (z ∈ m):=by
 cases h:inV (.str z) (m.map V.str) with
 | true=>
  unfold inV at h
  rw [List.any_map,List.any_eq_true] at h
  obtain ⟨y,hy,e⟩:=h
  have:(y == z)=true:=e
  rw [<- eq_of_beq this,decide_eq_true hy]
 | false=>
  refine (decide_eq_false fun hz=>?_).symm
  rw [in_strs hz] at h;cases h
theorem ist_mem {H:Hp} {zs:List Str} {b:Addr} {ps:List (Str × Str)} {us:List V} {u:V} (h:IsTs H zs (.ref b) ps) (hb:H b=some (.lst us)) (hu:u ∈ us):∃ p,IsTi H zs u p:=by
 obtain ⟨b',e,⟨qs,e2,pr⟩,tz,_⟩:=h
 cases e
 rw [hb] at e2
 injection e2 with e2;injection e2 with e2
 subst e2
 obtain ⟨t,ht,rfl⟩:=List.mem_map.mp hu
 obtain ⟨i,hi⟩:=List.getElem?_of_mem ht
 obtain ⟨r,er,hr⟩:=paired_get pr i t hi
 rw [List.getElem?_map] at er
 cases ep:ps[i]? with
 | none=>rw [ep] at er;cases er
 | some p=>
  rw [ep] at er
  have er':pairV p=r:=Option.some.inj er
  subst er'
  exact ⟨p,t,rfl,hr,tz p (List.mem_of_getElem? ep)⟩
def Tp (H:Hp) (zs:List Str) (us:List V) (ps:List (Str × Str)):Prop:=∃ qs:List Addr,us=qs.map V.ref/\Paired (fun q r=>H q=some (.tup r)) qs (ps.map pairV)/\∀ p ∈ ps,TieOk zs p
theorem Tp.snoc {H:Hp} {zs:List Str} {us:List V} {ps:List (Str × Str)} {t:Addr} {p:Str × Str} (h:Tp H zs us ps) (ht:H t=some (.tup (pairV p))) (ok:TieOk zs p):Tp H zs (us ++ [.ref t]) (ps ++ [p]):=by
 obtain ⟨qs,e,pr,g⟩:=h
 refine ⟨qs ++ [t],by rw [e,List.map_append];rfl,?_,fun y hy=>?_⟩
 ·rw [List.map_append]
  exact paired_app pr (.cons ht .nil)
 ·rcases List.mem_append.mp hy with h | h
  ·exact g y h
  ·rw [List.mem_singleton.mp h];exact ok
def spIT (K:PySem.W.Frag):Sp:=fun vs H Q _=>∃ hv tv,vs=[hv,tv]/\Dp K H 1 hv/\Dp K H 2 tv/\∀ (b:Bool) (H':Hp),(b=true ↔ ∃ zs ps,IsTree H hv tv zs ps)->Keep [] H H'->Q (.bl b) H'
theorem okIT (G:FunG K mg "_law_is_tree" sIT ["_law_houses","_law_ties"]) (CLN:Cal P w K mg base CX0 1 "_law_is_name" ["_law_thing"] (spLN K)) (b_isinstance:Blt mg "isinstance") (b_list:Blt mg "list") (b_tuple:Blt mg "tuple") (b_len:Blt mg "len") (b_all:Blt mg "all") (b_set:Blt mg "set"):Cal P w K mg base CX0 2 "_law_is_tree" ["_law_houses","_law_ties"] (spIT K):=by
 refine G.ok scIT (fun vs H Q E h=>by obtain ⟨hv,tv,rfl,_⟩:=h;rfl) (fun f cdv A outer s H vs Q E hr h=>?_)
 obtain ⟨hv,tv,rfl,dh,dt,q⟩:=h
 have hr1:Room 1 _:=hr
 have hu:=hu_of hr
 refine ⟨_,(pss_cons (ps_if (PW.pt (pw_or (pt_not (pt_val (pe_blt call_isinst b_isinstance bo_isinstance (pa_cons (pv 0) (pa_cons (pe_ty b_list bo_list) pa_nil))))) (pw_or (pt_cmpR (op_eqE (Nat.lt_of_succ_lt hu)) (pv 0) (pe_lst pa_nil) (nomark _)) (pw_or1 (pt_not (pt_val (pe_blt (call_all rfl) b_all bo_all (pa_cons (pe_lc1 (N:=["_law_houses","_law_ties","_law_tie","_law_marked","_law_turn","_law_one","_law_other"]) (sc:=defScope sIT) (ix:=[]) (by decide +kernel) (pi_list (pv 0)) (fun _ _ _ _=>pts_nil) (fun _ _ _ _=>(pe_cal CLN hr1 (pa_cons (pv 0) pa_nil)))) pa_nil)))))))) (pss_one (ps_ret pe_bl)) pss_nil)
   (pss_cons (ps_if (PW.pt (pw_or (pt_cmpR op_lt (pe_blt call_lenSet b_len bo_len (pa_cons (pe_callTy (call_setS rfl) rfl b_set.no bo_set (pa_cons (pv 0) pa_nil)) pa_nil)) (pe_blt call_len b_len bo_len (pa_cons (pv 0) pa_nil)) (nomark _)) (pw_or (pt_not (pt_val (pe_blt call_isinst b_isinstance bo_isinstance (pa_cons (pv 1) (pa_cons (pe_ty b_list bo_list) pa_nil))))) (pw_or1 (pt_cmpR op_ne (pe_blt call_len b_len bo_len (pa_cons (pv 1) pa_nil)) (pe_op op_sub (pe_blt call_len b_len bo_len (pa_cons (pv 0) pa_nil)) pe_int) (nomark _)))))) (pss_one (ps_ret pe_bl)) pss_nil)
   (pss_cons (ps_for PassesOwn.never rfl (pi_list (pv 1)) (pg_name (i:=2) scIT.nd rfl (Or.inl rfl)) (pss_cons (ps_if (PW.pt (pw_or (pt_not (pt_val (pe_blt call_isinst b_isinstance bo_isinstance (pa_cons (pv 2) (pa_cons (pe_ty b_tuple bo_tuple) pa_nil))))) (pw_or (pt_cmpR op_ne (pe_blt call_len b_len bo_len (pa_cons (pv 2) pa_nil)) pe_int (nomark _)) (pw_or1 (pt_not (pt_val (pe_blt (call_all rfl) b_all bo_all (pa_cons (pe_lc1 (N:=["_law_houses","_law_ties","_law_tie","_law_marked","_law_turn","_law_one","_law_other"]) (sc:=defScope sIT) (ix:=[]) (by decide +kernel) (pi_tup (pv 2)) (fun _ _ _ _=>pts_nil) (fun _ _ _ _=>(pe_cal CLN hr1 (pa_cons (pv 0) pa_nil)))) pa_nil)))))))) (pss_one (ps_ret pe_bl)) pss_nil)
   (pss_one (ps_if (PW.pt (pw_or (pt_cmpR op_eq (pe_ix ix_tupH (pv 2) pe_int (fun _ _=>rfl)) (pe_ix ix_tupH (pv 2) pe_int (fun _ _=>rfl)) (nomark _)) (pw_or (pt_cmpR op_notIn_seq (pe_ix ix_tupH (pv 2) pe_int (fun _ _=>rfl)) (pv 0) (by with_unfolding_all rfl)) (pw_or1 (pt_cmpR op_notIn_seq (pe_ix ix_tupH (pv 2) pe_int (fun _ _=>rfl)) (pv 0) (by with_unfolding_all rfl)))))) (pss_one (ps_ret pe_bl)) pss_nil))))
   (pss_cons (ps_set (i:=3) scIT.nd rfl (Or.inl rfl) (pe_lst (pa_cons (pe_ix ix_lstH (pv 0) pe_int (fun _ _=>rfl)) pa_nil)))
   (pss_cons (ps_for PassesOwn.never rfl (pi_list (pv 0)) (pg_name (i:=4) scIT.nd rfl (Or.inl rfl)) (pss_one (ps_for PassesOwn.never rfl (pi_list (pv 1)) (pg_tup rfl (pgs_cons (pg_name (i:=5) scIT.nd rfl (Or.inl rfl)) (pgs_cons (pg_name (i:=6) scIT.nd rfl (Or.inl rfl)) pgs_nil))) (pss_one (ps_if (pt_cmpR op_ne (pe_cmpR op_in_seq (pv 5) (pv 3) (by with_unfolding_all rfl)) (pe_cmpR op_in_seq (pv 6) (pv 3) (by with_unfolding_all rfl)) (nomark _)) (pss_one (ps_set (i:=3) scIT.nd rfl (Or.inl rfl) (pe_op op_cat (pv 3) (pe_lst (pa_cons (pv 5) (pa_cons (pv 6) pa_nil)))))) pss_nil)))))
   (pss_one (ps_ret (pe_cmpR op_eq (pe_blt call_lenSet b_len bo_len (pa_cons (pe_callTy (call_setS rfl) rfl b_set.no bo_set (pa_cons (pv 3) pa_nil)) pa_nil)) (pe_blt call_len b_len bo_len (pa_cons (pv 0) pa_nil)) (nomark _))))))))),?_⟩
 have no:∀ H',Keep [] H H'->(∀ zs ps,¬ IsTree H hv tv zs ps)->Q (.bl false) H':=fun H' k h=>q false H' (iff_of_false (by decide) (fun ⟨zs,ps,t⟩=>h zs ps t)) k
 obtain ⟨T,pt⟩:=dh.pl.pt
 refine ⟨_,rfl,_,_,_,_,rfl,pt.ty,pt.kit.2.2.2.1,_,rfl,?_⟩
 have nol:(∀ a us,hv=.ref a->H a ≠ some (.lst us))->Q (.bl false) H:=fun h=>no H (Keep.refl _) fun zs ps t=>by
  obtain ⟨⟨⟨a,e1,e2,_⟩,_⟩,_⟩:=t
  exact h a _ e1 e2
 cases pt with
 | tup e=>exact ifT rfl (nol fun a us h1 h2=>by cases h1;rw [e] at h2;cases h2)
 | dK e=>exact ifT rfl (nol fun a us h1 h2=>by cases h1;rw [e] at h2;cases h2)
 | @lst a us ha=>
  refine ifF rfl ?_
  obtain ⟨lu,du⟩:=dh.2 a rfl us (.inl ha)
  refine ⟨_,rfl,by show 0 <= sizeLine;decide,fun e0 he0=>?_⟩
  have k1:Keep [] H (upd H e0 (.lst [])):=Keep.new he0
  refine ⟨a,e0,us,rfl,rfl,k1 _ _ (by simp) ha,upd_same,ne_of_none ha he0,_,rfl,?_⟩
  generalize upd H e0 (.lst [])=H1 at k1 ⊢
  cases us with
  | nil=>
   refine ifT rfl (no H1 k1 fun zs ps t=>?_)
   obtain ⟨⟨⟨a',e1,e2,_⟩,_,l⟩,_⟩:=t
   cases e1
   rw [ha] at e2
   injection e2 with e2;injection e2 with e2
   cases zs with
   | nil=>exact absurd l (by decide)
   | cons _ _=>cases e2
  | cons u0 us0=>
  refine ifF rfl ?_
  refine ⟨_,rfl,a,rfl,⟨_,.of (k1 _ _ (by simp) ha)⟩,fun acc hacc=>lc_nms lu hacc (k1 _ _ (by simp) ha) (fun u hu'=>Pl.keep (du u hu') k1) rfl (fun u H R p h=>⟨_,rfl,u,rfl,p,h⟩) fun H2 e2 k2=>⟨acc,_,rfl,.of e2,_,rfl,?_⟩⟩
  rw [all_map_id]
  have k12:=k1.trans k2
  cases hall:(u0 :: us0).all nameV with
  | false=>
   refine ifT rfl (no H2 k12 fun zs ps t=>?_)
   obtain ⟨⟨⟨a',e1,e2',g⟩,_⟩,_⟩:=t
   cases e1
   rw [ha] at e2'
   injection e2' with e2';injection e2' with e2'
   rw [e2',names_all g] at hall
   cases hall
  | true=>
  refine ifF rfl ?_
  obtain ⟨zs,ez,gz⟩:=all_names _ hall
  have lz:1 <= zs.length:=by
   cases zs with
   | nil=>cases ez
   | cons _ _=>simp
  rw [ez] at ha lu
  rw [List.length_map] at lu
  clear hall e2 du
  have isN:IsNs H (.ref a) zs:=⟨a,rfl,ha,gz⟩
  have ha2:=k12 _ _ (by simp) ha
  refine ⟨_,rfl,a,zs,rfl,ha2,by omega,fun p hp=>⟨p,zs,rfl,upd_same,by omega,?_⟩⟩
  have k3:Keep [] H (upd H2 p (setO P w p zs)):=k12.trans (Keep.new hp)
  refine ⟨_,rfl,_,_,rfl,.inl ⟨_,.of ((Keep.new (S:=[]) hp) _ _ (by simp) ha2),rfl⟩,_,_,rfl,rfl,_,rfl,?_⟩
  rw [List.length_map]
  generalize hH3:upd H2 p _=H3
  have k3:Keep [] H H3:=by rw [<- hH3];exact k12.trans (Keep.new hp)
  by_cases nd:zs.Nodup
  ·refine ifF (by rw [manyS_nodup nd];simp) ?_
   obtain ⟨T2,pt2⟩:=dt.pl.pt
   have pt3:=pt2.keep k3
   refine ⟨_,rfl,_,_,_,_,rfl,pt3.ty,pt3.kit.2.2.2.1,_,rfl,?_⟩
   have nol2:(∀ b us,tv=.ref b->H b ≠ some (.lst us))->Q (.bl false) H3:=fun h=>no H3 k3 fun zs ps t=>by
    obtain ⟨_,⟨b,e1,⟨qs,e2,_⟩,_⟩,_⟩:=t
    exact h b _ e1 e2
   clear pt3
   cases pt2 with
   | tup e=>exact ifT rfl (nol2 fun a us h1 h2=>by cases h1;rw [e] at h2;cases h2)
   | dK e=>exact ifT rfl (nol2 fun a us h1 h2=>by cases h1;rw [e] at h2;cases h2)
   | @lst b vs hb=>
    refine ifF rfl ?_
    obtain ⟨lv,dv⟩:=dt.2 b rfl vs (.inl hb)
    have hb3:=k3 _ _ (by simp) hb
    have ha3:=k3 _ _ (by simp) ha
    refine ⟨_,rfl,_,_,rfl,.inl ⟨_,.of hb3,rfl⟩,_,rfl,_,_,rfl,.inl ⟨_,.of ha3,rfl⟩,_,_,rfl,rfl,rfl,_,rfl,?_⟩
    rw [List.length_map]
    have only:∀ {ys ps},IsTree H (.ref a) (.ref b) ys ps->ys=zs:=fun t=>t.1.1.inj isN
    by_cases le:vs.length + 1=zs.length
    ·refine ifF (by simp;omega) ?_
     refine ⟨_,rfl,b,rfl,⟨_,.of hb3⟩,for_list (K:=K) (a:=b) (xs:=vs) (fun i σ H'=>∃ (v2:Option V) (ps:List (Str × Str)),σ=[some (.ref a),some (.ref b),v2,none,none,none,none]/\Tp H zs (vs.take i) ps/\Keep [] H3 H') ⟨_,[],rfl,⟨[],rfl,.nil,fun p h=>absurd h List.not_mem_nil⟩,Keep.refl _⟩ (fun i σ H' _ ⟨_,_,_,_,kp⟩=>.of (kp _ _ (by simp) hb3)) ?_ ?_⟩
     ·rintro i u σ H4 hi ⟨v2,ps,rfl,tp,k34⟩
      have k4:=k3.trans k34
      have du:=dv u (List.mem_of_getElem? hi)
      have bad:(∀ p,¬ IsTi H zs u p)->∀ H',Keep [] H H'->Q (.bl false) H':=fun h H' k=>no H' k fun ys ps t=>by
       obtain ⟨p,hp⟩:=ist_mem t.2.1 hb (List.mem_of_getElem? hi)
       rw [only t] at hp
       exact h p hp
      obtain ⟨Tu,pu⟩:=du.pl.pt
      have pu4:=pu.keep k4
      refine ⟨_,rfl,_,_,_,_,rfl,pu4.ty,pu4.kit.2.2.2.2,_,rfl,?_⟩
      clear pu4
      cases pu with
      | lst e=>exact ifT rfl (bad (fun p ⟨t,h1,h2,_⟩=>by cases h1;rw [e] at h2;cases h2) H4 k4)
      | dK e=>exact ifT rfl (bad (fun p ⟨t,h1,h2,_⟩=>by cases h1;rw [e] at h2;cases h2) H4 k4)
      | @tup t ts ht=>
       refine ifF rfl ?_
       obtain ⟨lt,dts⟩:=du.2 t rfl ts (.inr ht)
       have ht4:=k4 _ _ (by simp) ht
       refine ⟨_,rfl,_,_,rfl,.inr ⟨_,.of ht4,rfl⟩,rfl,_,rfl,?_⟩
       have un:∀ p,IsTi H zs (.ref t) p->ts=pairV p:=fun p ⟨t',h1,h2,_⟩=>by
        cases h1
        rw [ht] at h2
        injection h2 with h2;injection h2 with h2
       by_cases l2:ts.length=2
       ·obtain ⟨y1,y2,rfl⟩:∃ x y,ts=[x,y]:=by
         match ts,l2 with
         | [x,y],_=>exact ⟨x,y,rfl⟩
        refine ifF (by show (!decide (V.int ((2:Nat):Int)=V.int 2))=false;decide) ?_
        refine ⟨_,rfl,t,rfl,⟨_,.of ht4⟩,fun acc hacc=>lc_nmsT (by show 2 < 60;decide) hacc ht4 (fun u hu'=>Pl.keep (dts u hu') k4) rfl (fun u H R p h=>⟨_,rfl,u,rfl,p,h⟩) fun H5 e5 k45=>⟨acc,_,rfl,.of e5,_,rfl,?_⟩⟩
        rw [all_map_id]
        have k5:=k4.trans k45
        cases hal:[y1,y2].all nameV with
        | false=>
         refine ifT rfl (bad (fun p hp=>?_) H5 k5)
         have e1:=un p hp
         obtain ⟨_,_,_,m1,m2,_⟩:=hp
         rw [e1] at hal
         have:[V.str p.1,V.str p.2].all nameV=true:=by
          simp only [List.all_cons,List.all_nil,Bool.and_true]
          rw [show nameV (.str p.1)=true from (gz _ m1).1,show nameV (.str p.2)=true from (gz _ m2).1];rfl
         rw [show pairV p=[V.str p.1,V.str p.2] from rfl,this] at hal
         cases hal
        | true=>
        refine ifF rfl ?_
        obtain ⟨ns,en,gn⟩:=all_names _ hal
        obtain ⟨z1,z2,rfl⟩:∃ z1 z2,ns=[z1,z2]:=by
         match ns,en with
         | [z1,z2],_=>exact ⟨z1,z2,rfl⟩
        have en1:y1=.str z1:=by injection en
        have en2:y2=.str z2:=by injection en with _ en;injection en
        subst en1 en2
        have ht5:=k45 _ _ (by simp) ht4
        have ha5:=k5 _ _ (by simp) ha
        refine ⟨_,rfl,t,_,0,_,rfl,rfl,ht5,atH0 _ _,_,rfl,t,_,1,_,rfl,rfl,ht5,atH1 _ _ _,rfl,_,rfl,?_⟩
        refine ite2 (fun e12=>?_) (fun e12=>?_)
        ·have e12':z1=z2:=by have:=of_decide_eq_true e12;injection this
         refine bad (fun p hp=>?_) H5 k5
         have e1:=un p hp
         obtain ⟨_,_,_,_,_,ne⟩:=hp
         injection e1 with e1 e2;injection e2 with e2 _
         injection e1 with e1;injection e2 with e2
         exact ne (by rw [<- e1,<- e2];exact e12')
        have ne12:z1 ≠ z2:=fun e=>e12 (decide_eq_true (by rw [e]))
        refine ⟨_,rfl,t,_,0,_,rfl,rfl,ht5,atH0 _ _,_,rfl,a,_,rfl,.inl (.of ha5),rfl,flat_strs zs,_,rfl,?_⟩
        rw [inV_dec]
        by_cases m1:z1 ∈ zs
        ·rw [decide_eq_true m1]
         refine ifF rfl ?_
         refine ⟨_,rfl,t,_,1,_,rfl,rfl,ht5,atH1 _ _ _,_,rfl,a,_,rfl,.inl (.of ha5),rfl,flat_strs zs,_,rfl,?_⟩
         rw [inV_dec]
         by_cases m2:z2 ∈ zs
         ·rw [decide_eq_true m2]
          refine ifF rfl ⟨_,ps ++ [(z1,z2)],rfl,?_,(k34.trans k45)⟩
          rw [List.take_add_one,hi]
          exact tp.snoc ht ⟨m1,m2,ne12⟩
         ·rw [decide_eq_false m2]
          refine ifT rfl (bad (fun p hp=>?_) H5 k5)
          have e1:=un p hp
          obtain ⟨_,_,_,_,q2,_⟩:=hp
          injection e1 with e1 e2;injection e2 with e2 _
          injection e2 with e2
          exact m2 (by rw [e2];exact q2)
        ·rw [decide_eq_false m1]
         refine ifT rfl (bad (fun p hp=>?_) H5 k5)
         have e1:=un p hp
         obtain ⟨_,_,_,q1,_,_⟩:=hp
         injection e1 with e1 e2
         injection e1 with e1
         exact m1 (by rw [e1];exact q1)
       ·refine ifT (by show (!decide (V.int (ts.length:Int)=V.int 2))=true;rw [decide_eq_false (fun e=>l2 (by injection e with e;exact Int.ofNat.inj e))];rfl) (bad (fun p hp=>l2 (by rw [un p hp];rfl)) H4 k4)
      | _=>exact ifT rfl (bad (fun p ⟨t,h1,h2,_⟩=>by cases h1) H4 k4)
     ·rintro σ H4 ⟨v2,ps,rfl,tp,k34⟩
      rw [List.take_of_length_le (Nat.le_refl _)] at tp
      obtain ⟨qs,rfl,pr,tz⟩:=id tp
      have lq:=paired_len pr
      rw [List.length_map] at lq le lv
      have isT:IsTs H zs (.ref b) ps:=⟨b,rfl,⟨qs,hb,pr⟩,tz,by omega⟩
      have k4:=k3.trans k34
      have ha4:=k4 _ _ (by simp) ha
      have hb4:=k4 _ _ (by simp) hb
      have pr4:=paired_far k4 (fun b hb=>absurd hb List.not_mem_nil) pr
      obtain ⟨z0,zt,ezs⟩:∃ z0 zt,zs=z0 :: zt:=by
       cases zs with
       | nil=>exact absurd lz (by decide)
       | cons z t=>exact ⟨z,t,rfl⟩
      have hz0:z0 ∈ zs:=by rw [ezs];exact List.mem_cons_self
      refine ⟨_,rfl,a,_,0,.str z0,rfl,rfl,ha4,by rw [ezs];exact atH0 _ _,by show 1 <= sizeLine;decide,fun ml hml=>?_⟩
      have k45:Keep [] H4 (upd H4 ml (.lst [.str z0])):=Keep.new hml
      have eml:upd H4 ml (.lst [.str z0]) ml=some (.lst ([z0].map V.str)):=upd_same
      generalize upd H4 ml (.lst [.str z0])=H5 at k45 eml ⊢
      have ha5:=k45 _ _ (by simp) ha4
      have hb5:=k45 _ _ (by simp) hb4
      have pr5:=paired_far k45 (fun b hb=>absurd hb List.not_mem_nil) pr4
      refine ⟨_,rfl,a,rfl,⟨_,.of ha5⟩,for_list (K:=K) (a:=a) (xs:=zs.map V.str) (fun i σ H'=>∃ (v2 v4 v5 v6:Option V) (ml:Addr) (m ks:List Str),σ=[some (.ref a),some (.ref b),v2,some (.ref ml),v4,v5,v6]/\Mkd zs ps z0 m ks/\((∀ t ∈ ps,even m t) \/ i + 1 <= ks.length)/\H' ml=some (.lst (m.map V.str))/\Keep [] H5 H')
       ⟨_,_,_,_,ml,[z0],[z0],rfl,Mkd.start hz0,.inr (Nat.le_refl _),eml,Keep.refl _⟩ (fun i σ H' _ ⟨_,_,_,_,_,_,_,_,_,_,_,kp⟩=>.of (kp _ _ (by simp) ha5)) ?_ ?_⟩
      ·rintro i y σ H6 hi ⟨v2',v4,v5,v6,ml6,m,ks,rfl,M,cl,em,k56⟩
       have hb6:=k56 _ _ (by simp) hb5
       have pr6:=paired_far k56 (fun b hb=>absurd hb List.not_mem_nil) pr5
       refine ⟨_,rfl,b,rfl,⟨_,.of hb6⟩,for_list (K:=K) (a:=b) (xs:=qs.map V.ref) (fun j σ H'=>∃ (v5 v6:Option V) (ml:Addr) (m' ks':List Str),σ=[some (.ref a),some (.ref b),v2',some (.ref ml),some y,v5,v6]/\Mkd zs ps z0 m' ks'/\((m'=m/\ks'=ks/\∀ t ∈ ps.take j,even m t) \/ (ks.length < ks'.length/\¬ ∀ t ∈ ps,even m t))/\H' ml=some (.lst (m'.map V.str))/\Keep [] H6 H')
        ⟨_,_,ml6,m,ks,rfl,M,.inl ⟨rfl,rfl,fun t h=>absurd h List.not_mem_nil⟩,em,Keep.refl _⟩ (fun i σ H' _ ⟨_,_,_,_,_,_,_,_,_,kp⟩=>.of (kp _ _ (by simp) hb6)) ?_ ?_⟩
       ·rintro j u σ H7 hj ⟨w5,w6,ml7,m',ks',rfl,M',st,em7,k67⟩
        rw [List.getElem?_map] at hj
        cases et:qs[j]? with
        | none=>rw [et] at hj;cases hj
        | some t=>
        rw [et] at hj
        obtain rfl:V.ref t=u:=Option.some.inj hj
        obtain ⟨r,er,ht⟩:=paired_get pr6 j t et
        rw [List.getElem?_map] at er
        cases ep:ps[j]? with
        | none=>rw [ep] at er;cases er
        | some p=>
        rw [ep] at er
        have er':pairV p=r:=Option.some.inj er
        subst er'
        have hp:p ∈ ps:=List.mem_of_getElem? ep
        have ht7:H7 t=some (.tup [.str p.1,.str p.2]):=k67 _ _ (by simp) ht
        have lm:m'.length < 120:=by
         have:=M'.len
         have:=M'.size
         omega
        refine ⟨t,_,rfl,.of ht7,rfl,_,_,rfl,_,_,rfl,rfl,?_⟩
        refine ⟨_,rfl,_,rfl,ml7,_,rfl,.inl (.of em7),rfl,flat_strs m',_,rfl,_,rfl,ml7,_,rfl,.inl (.of em7),rfl,flat_strs m',rfl,_,rfl,?_⟩
        rw [inV_dec,inV_dec]
        by_cases ev:even m' p
        ·refine ifF ?_ ⟨_,_,ml7,m',ks',rfl,M',?_,em7,k67⟩
         ·have:decide (p.1 ∈ m')=decide (p.2 ∈ m'):=decide_eq_decide.mpr ev
          rw [this];simp
         ·rcases st with ⟨rfl,rfl,h⟩ | h
          ·refine .inl ⟨rfl,rfl,fun t' ht'=>?_⟩
           rw [List.take_add_one,ep] at ht'
           rcases List.mem_append.mp ht' with h' | h'
           ·exact h t' h'
           ·have:t'=p:=by simpa using h'
            rw [this];exact ev
          ·exact .inr h
        ·refine ifT ?_ ?_
         ·have:¬ (decide (p.1 ∈ m')=decide (p.2 ∈ m')):=fun e=>ev (decide_eq_decide.mp e)
          show (!decide (V.bl (decide (p.1 ∈ m'))=V.bl (decide (p.2 ∈ m'))))=true
          rw [decide_eq_false (fun e=>this (by injection e))];rfl
         obtain ⟨ks2,M2,l2⟩:=M'.more hp (tz p hp) ev
         refine ⟨_,rfl,_,rfl,_,rfl,by show 2 <= sizeLine;decide,fun l7 hl7=>⟨ml7,l7,_,_,rfl,rfl,(Keep.new (S:=[]) hl7) _ _ (by simp) em7,upd_same,by rw [List.length_map,sizeLine_eq];show _ + 2 <= _;omega,fun m8 hm8=>?_⟩⟩
         refine ⟨_,_,m8,m' ++ [p.1,p.2],ks2,rfl,M2,.inr ⟨?_,?_⟩,by rw [upd_same,List.map_append];rfl,(k67.trans (Keep.new hl7)).trans (Keep.new hm8)⟩
         ·rcases st with ⟨_,rfl,_⟩ | h
          ·omega
          ·have:=h.1;omega
         ·rcases st with ⟨rfl,_,_⟩ | h
          ·exact fun all=>ev (all p hp)
          ·exact h.2
       ·rintro σ H7 ⟨w5,w6,ml7,m',ks',rfl,M',st,em7,k67⟩
        refine ⟨_,_,_,_,ml7,m',ks',rfl,M',?_,em7,k56.trans k67⟩
        rcases st with ⟨rfl,rfl,h⟩ | ⟨h,nc⟩
        ·left
         rw [List.length_map,lq,List.take_length] at h
         exact h
        ·right
         rcases cl with c | c
         ·exact absurd c nc
         ·omega
      ·rintro σ H6 ⟨v2',v4,v5,v6,ml6,m,ks,rfl,M,cl,em,k56⟩
       have lm:m.length < 120:=by
        have:=M.len
        have:=M.size
        omega
       have cl':∀ t ∈ ps,even m t:=by
        rcases cl with c | c
        ·exact c
        ·rw [List.length_map] at c
         have:=M.size
         omega
       refine ⟨_,rfl,ml6,m,rfl,em,by omega,fun p hp=>⟨p,m,rfl,upd_same,by omega,?_⟩⟩
       have kf:∀ o,Keep [] H (upd H6 p o):=fun o=>(k4.trans (k45.trans k56)).trans (Keep.new hp)
       refine ⟨_,rfl,_,_,rfl,.inl ⟨_,.of (kf _ _ _ (by simp) ha),rfl⟩,rfl,q _ _ ?_ (kf _)⟩
       rw [List.length_map]
       have key:=M.conn nd hz0 cl'
       constructor
       ·intro h
        have h1:=of_decide_eq_true h
        injection h1 with h1
        exact ⟨zs,ps,⟨isN,nd,lz⟩,isT,key.mp (Int.ofNat.inj h1)⟩
       ·rintro ⟨ys,rs,t⟩
        have e:=only t
        subst e
        have e2:=t.2.1.inj isT
        subst e2
        exact decide_eq_true (by rw [key.mpr t.2.2])
    ·refine ifT (by simp;omega) (no H3 k3 fun ys ps t=>?_)
     rw [only t] at t
     obtain ⟨_,⟨b',e1,⟨qs,e2,pr⟩,_,l⟩,_⟩:=t
     cases e1
     rw [hb] at e2
     injection e2 with e2;injection e2 with e2
     have l2:=paired_len pr
     rw [List.length_map] at l2
     rw [e2,List.length_map] at le
     omega
   | _=>exact ifT rfl (nol2 fun a us h1 h2=>by cases h1)
  ·have lt:manyS zs < zs.length:=Nat.lt_of_le_of_ne (metS_le _ _) fun e=>nd (many_nodup e)
   refine ifT (decide_eq_true (by omega)) (no H3 k3 fun ys ps t=>?_)
   obtain ⟨⟨h,n,_⟩,_⟩:=t
   rw [h.inj isN] at n
   exact nd n
 | _=>exact ifT rfl (nol fun a us h1 h2=>by cases h1)
end
end K03
namespace L2
open PySem PySem.Spec PyProof.Rows
def flP:V->Bool
 | .non=>true
 | .bl _=>true
 | .int _=>true
 | .str _=>true
 | _=>false
def dOf:V->PyData
 | .non=>.none
 | .bl b=>.bool b
 | .int i=>.int i
 | .str z=>.str z
 | _=>.none
def RdX (H:Hp):Nat->V->PyData->Prop
 | 0,v,d=>flP v=true/\d=dOf v
 | n + 1,v,d=>(flP v=true/\d=dOf v) \/ (∃ (a:Addr) (us:List V) (ds:List PyData),v=.ref a/\((H a=some (.lst us)/\d=.list ds) \/ (H a=some (.tup us)/\d=.tuple ds))/\Paired (RdX H n) us ds) \/
  ∃ (a:Addr) (kvs:List (Key × V)),v=.ref a/\H a=some (.dK kvs)/\(∀ p ∈ kvs,flP p.2=true)/\d=.dict (kvs.map fun p=>(dOf (kV p.1),dOf p.2))
theorem flP.reads {h:Heap} {v:V} {u:Value} (f:flP v=true) (r:RelV v u):Reads h u (dOf v) []:=by
 cases v with
 | non=>cases (show u=.none from r);exact .none
 | bl b=>cases (show u=.bool b from r);exact .bool b
 | int i=>obtain ⟨t,rfl⟩:=r;exact .int i t
 | str z=>obtain ⟨t,rfl⟩:=r;exact .str z t
 | _=>cases f
theorem RdX.reads {P:Program} {w:World} {H:Hp} {h:Heap} (ok:HOk P w H h):∀ (n:Nat) {v:V} {d:PyData} {u:Value},RdX H n v d->RelV v u->∃ as,Reads h u d as/\∀ b ∈ as,H b ≠ none
 | 0,_,_,_,⟨f,e⟩,r=>⟨[],e ▸ flP.reads f r,fun b hb=>absurd hb List.not_mem_nil⟩
 | n + 1,_,_,_,.inl ⟨f,e⟩,r=>⟨[],e ▸ flP.reads f r,fun b hb=>absurd hb List.not_mem_nil⟩
 | n + 1,v,d,u,.inr (.inl ⟨a,us,ds,e,hh,pr⟩),r=>by
  subst e
  cases r
  have all:∀ {us:List V} {ds:List PyData},Paired (RdX H n) us ds->∀ {ws:List Value},Vals us ws->∃ as,ReadsAll h ws ds as/\∀ b ∈ as,H b ≠ none:=by
   intro us ds pr
   induction pr with
   | nil=>intro ws r;cases r;exact ⟨_,.nil,fun b hb=>absurd hb List.not_mem_nil⟩
   | cons h1 _ ih=>
    intro ws r
    cases r with
    | cons r1 r2=>
     obtain ⟨as,q1,g1⟩:=RdX.reads ok n h1 r1
     obtain ⟨bs,q2,g2⟩:=ih r2
     exact ⟨_,.cons q1 q2,fun b hb=>(List.mem_append.mp hb).elim (g1 b) (g2 b)⟩
  rcases hh with ⟨ha,rfl⟩ | ⟨ha,rfl⟩
  ·obtain ⟨_,its,k,rv,e⟩:=(show ObjOk P w H h a (.lst us) from ok a _ ha)
   obtain ⟨as,q,g⟩:=all pr rv
   refine ⟨_,.list e rfl rfl q,fun b hb=>?_⟩
   rcases List.mem_cons.mp hb with rfl | hb
   ·rw [ha];intro z;cases z
   ·exact g b hb
  ·obtain ⟨_,its,rv,o,e1,e2,k,e3⟩:=(show ObjOk P w H h a (.tup us) from ok a _ ha)
   obtain ⟨as,q,g⟩:=all pr rv
   exact ⟨_,.tuple e1 e2 e3 q,g⟩
 | n + 1,v,d,u,.inr (.inr ⟨a,kvs,e,ha,fl,ed⟩),r=>by
  subst e
  cases r
  obtain ⟨_,_,vs,kv,o,es,ep,e1,e2,e3,_,ps,_⟩:=(show ObjOk P w H h a (.dK kvs) from ok a _ ha)
  have keys:∀ {kvs:List (Key × V)} {vs:List (Key × Value)} {es:List DictEntry},KV kvs vs->Pairs (mixKind P w) es vs->(∀ p ∈ kvs,flP p.2=true)->(∃ as,ReadsAll h (es.map (·.key)) ((kvs.map fun p=>(dOf (kV p.1),dOf p.2)).map (·.1)) as/\as=[])/\∃ bs,ReadsAll h (es.map (·.val)) ((kvs.map fun p=>(dOf (kV p.1),dOf p.2)).map (·.2)) bs/\bs=[]:=by
   intro kvs vs es kv
   induction kv generalizing es with
   | nil=>intro ps _;cases ps;exact ⟨⟨_,.nil,rfl⟩,_,.nil,rfl⟩
   | @cons p q kvs vs h1 _ ih=>
    intro ps fl
    cases ps with
    | @cons e _ es _ k1 k2 k3=>
     obtain ⟨⟨as,r1,rfl⟩,bs,r2,rfl⟩:=ih k3 fun p hp=>fl p (List.mem_cons_of_mem _ hp)
     obtain ⟨e1,r⟩:=h1
     have rk:Reads h e.key (dOf (kV p.1)) []:=by
      rw [e1]
      rcases keyIs_shape k1 with ⟨i,t,z1,z2⟩ | ⟨x,t,z1,z2⟩
      ·rw [z1,z2];exact .int i t
      ·rw [z1,z2];exact .str x t
     have rv:Reads h e.val (dOf p.2) []:=by rw [k2];exact flP.reads (fl p List.mem_cons_self) r
     exact ⟨⟨_,.cons rk r1,rfl⟩,_,.cons rv r2,rfl⟩
  obtain ⟨⟨as,r1,rfl⟩,bs,r2,rfl⟩:=keys kv ps fl
  subst ed
  refine ⟨_,.dict e1 e2.1 e3 r1 r2,fun b hb=>?_⟩
  have:b=a:=by simpa using hb
  rw [this,ha];intro z;cases z
structure DX (n W:Nat) (d:PyData):Prop where
 sh:d.showable=true
 dp:d.depth <= n
 lv:d.leavesShort 13=true
 wt:d.weight <= W
theorem DOk.dx {n W:Nat} {d:PyData} (h:DOk n W d):DX n W d:=⟨h.sh,h.dp,h.lv,h.wt⟩
theorem dx_all {n W:Nat}:∀ {ds:List PyData},(∀ d ∈ ds,DX n W d)->PyData.showableAll ds=true/\PyData.depthAll ds <= n/\PyData.leavesShortAll 13 ds=true/\PyData.weightAll ds <= ds.length * (W + 1)
 | [],_=>⟨by simp only [PyData.showableAll],by simp only [PyData.depthAll];omega,by simp only [PyData.leavesShortAll],by simp only [PyData.weightAll];omega⟩
 | d :: ds,h=>by
  obtain ⟨a1,a3,a4,a5⟩:=h d List.mem_cons_self
  obtain ⟨b1,b3,b4,b5⟩:=dx_all fun x hx=>h x (List.mem_cons_of_mem _ hx)
  refine ⟨by simp only [PyData.showableAll,a1,b1,Bool.and_self],by simp only [PyData.depthAll];omega,by simp only [PyData.leavesShortAll,a4,b4,Bool.and_self],?_⟩
  simp only [PyData.weightAll,List.length_cons,Nat.succ_mul]
  omega
theorem DX.list {n W:Nat} {ds:List PyData} (h:∀ d ∈ ds,DX n W d):DX (n + 1) (ds.length * (W + 1)) (.list ds):=by
 obtain ⟨b1,b3,b4,b5⟩:=dx_all h
 exact ⟨by simp only [PyData.showable,b1],by simp only [PyData.depth];omega,by simp only [PyData.leavesShort,b4],by simp only [PyData.weight];exact b5⟩
theorem DX.tuple {n W:Nat} {ds:List PyData} (h:∀ d ∈ ds,DX n W d):DX (n + 1) (ds.length * (W + 1)) (.tuple ds):=by
 obtain ⟨b1,b3,b4,b5⟩:=dx_all h
 exact ⟨by simp only [PyData.showable,b1],by simp only [PyData.depth];omega,by simp only [PyData.leavesShort,b4],by simp only [PyData.weight];exact b5⟩
theorem DX.mono {n m W X:Nat} {d:PyData} (h:DX n W d) (h1:n <= m) (h2:W <= X):DX m X d:=⟨h.sh,Nat.le_trans h.dp h1,h.lv,Nat.le_trans h.wt h2⟩
theorem dx_bl (b:Bool):DX 0 0 (.bool b):=⟨rfl,by simp only [PyData.depth];omega,rfl,by simp only [PyData.weight];omega⟩
theorem dx_dict {W:Nat}:∀ {kvs:List (PyData × PyData)},(∀ p ∈ kvs,DX 0 W p.1/\DX 0 W p.2)->DX 1 (kvs.length * (2 * W + 2)) (.dict kvs):=by
 intro kvs h
 have go:∀ {kvs:List (PyData × PyData)},(∀ p ∈ kvs,DX 0 W p.1/\DX 0 W p.2)->PyData.showableKv kvs=true/\PyData.depthKv kvs <= 0/\PyData.leavesShortKv 13 kvs=true/\PyData.weightKv kvs <= kvs.length * (2 * W + 2):=by
  intro kvs
  induction kvs with
  | nil=>intro _;exact ⟨by simp only [PyData.showableKv],by simp only [PyData.depthKv];omega,by simp only [PyData.leavesShortKv],by simp only [PyData.weightKv];omega⟩
  | cons p kvs ih=>
   intro h
   obtain ⟨k,v⟩:=p
   obtain ⟨⟨a1,a2,a3,a4⟩,c1,c2,c3,c4⟩:=h (k,v) List.mem_cons_self
   obtain ⟨b1,b2,b3,b4⟩:=ih fun x hx=>h x (List.mem_cons_of_mem _ hx)
   dsimp only at *
   refine ⟨by simp only [PyData.showableKv,a1,b1,c1,Bool.and_self],by simp only [PyData.depthKv];omega,by simp only [PyData.leavesShortKv,a3,b3,c3,Bool.and_self],?_⟩
   simp only [PyData.weightKv,List.length_cons]
   rw [Nat.add_mul,Nat.one_mul]
   omega
 obtain ⟨b1,b2,b3,b4⟩:=go h
 exact ⟨by simp only [PyData.showable,b1],by simp only [PyData.depth];omega,by simp only [PyData.leavesShort,b3],by simp only [PyData.weight];exact b4⟩
theorem call_strX {X:Cx} (hk:∃ o,X.base.get? sysModules=some o) (hg:X.A.guards=some []) (hu:X.A.units + 16 < cLine):CallR X (.type "str") (fun xs H Q=>∃ (a:Addr) (n W:Nat) (d:PyData),xs=[.ref a]/\RdX H n (.ref a) d/\DX n W d/\n <= 8/\W <= 1000000/\Q (.str d.shown) H):=by
 intro pins s σ H xs us Q I r h
 obtain ⟨a,n,W,d,rfl,hd,D,hn,hW,q⟩:=h
 obtain ⟨u,rfl,rx⟩:=vals1 r
 cases rx
 obtain ⟨as,rd,tr⟩:=RdX.reads I.hok n hd rfl
 have no:sysModules ∉ as:=fun hm=>by
  obtain ⟨o,ho⟩:=hk
  exact tr _ hm (I.bs _ _ ho).2
 have sl:=PyData.shown_le 13 (by decide) d D.lv
 have dp:=D.dp
 have wt:=D.wt
 refine PySem.str_of_reads rd D.sh (fun _=>no) hg (by omega) (fun b o e=>e) (fun h' u tk hk=>⟨.str d.shown,H,I.kept (t':=tk) hk,⟨_,rfl⟩,q⟩) ?_
 rw [sizeLine_eq]
 omega
end L2
namespace L2
open PySem PySem.Spec PyProof.Rows
section
variable {X:Cx}
def rLikeT (b:Bool):R2:=fun x y H Q=>∃ p q xs ys,x=.ref p/\y=.ref q/\H p=some (.tup xs)/\H q=some (.tup ys)/\xs.length=ys.length/\(∀ (i:Nat) (u v:V),xs[i]?=some u->ys[i]?=some v->Like H 3 u v)/\Q (.bl b) H
theorem op_eqTL (hu:X.A.units + 4 < cLine):OpR X (compareOp .Eq) (rLikeT true):=by
 intro pins s σ H x y v u Q I rx ry h
 obtain ⟨a,b,xs,ys,rfl,rfl,ha,hb,hl,each,q⟩:=h
 cases rx;cases ry
 obtain ⟨i1,r1,t1,_⟩:=I.tuple (.of ha)
 obtain ⟨i2,r2,t2,_⟩:=I.tuple (.of hb)
 have l1:=r1.length
 have l2:=r2.length
 have key:=SeqAt.RcAt.tuples (A:=X.A) (s:=s) (l:=a) (b:=b) (e:=fun _=>true) (show s.heap.IsTuple a i1.toArray from t1) (show s.heap.IsTuple b i2.toArray from t2) (by omega) (fun j g1 g2=>by
  obtain ⟨x,y,ex,ey,rx,ry⟩:=like_items r1 r2 hl j g1 g2
  exact like_at I 3 rx ry (each j x y ex ey) (by have e:X.A.in1.units=X.A.units + 1:=rfl;omega))
 rw [show ((List.range (min i1.toArray.size i2.toArray.size)).all (fun _=>true) && i1.toArray.size == i2.toArray.size)=true by
  rw [List.size_toArray,List.size_toArray,<- l1,<- l2,hl];simp] at key
 exact key _ _ _ _ ⟨.bl true,H,I,rfl,q⟩
end
end L2
namespace K03
open PySem L2
abbrev sRi:Stmt:=top 44
section
variable {P:Program} {w:World} {K:PySem.W.Frag} {mg:Str->Option Value} {base:Heap} {C:Addr}
theorem scRi:FnScope ["_law_houses","_law_ties","_law_kept","_law_found"] ["_law_houses","_law_ties"] (defScope sRi):=⟨rfl,rfl,rfl,by decide +kernel,rfl,by decide +kernel,by decide +kernel⟩
def Sh (H:Hp) (v:V):Prop:=∃ (n W:Nat) (d:PyData),RdX H n v d/\DX n W d/\n <= 5/\W <= 200000
theorem rdKeep {H H':Hp} (k:Keep [] H H'):∀ {n:Nat} {v:V} {d:PyData},RdX H n v d->RdX H' n v d
 | 0,_,_,h=>h
 | n + 1,_,_,.inl h=>.inl h
 | n + 1,_,_,.inr (.inl ⟨a,us,ds,e,h,pr⟩)=>.inr (.inl ⟨a,us,ds,e,h.imp (fun h=>⟨k _ _ (by simp) h.1,h.2⟩) (fun h=>⟨k _ _ (by simp) h.1,h.2⟩),by
  clear h e
  induction pr with
  | nil=>exact .nil
  | cons h1 _ ih=>exact .cons (rdKeep k h1) ih⟩)
 | n + 1,_,_,.inr (.inr ⟨a,kvs,e,h,r⟩)=>.inr (.inr ⟨a,kvs,e,k _ _ (by simp) h,r⟩)
theorem rdMono {H:Hp}:∀ {n m:Nat} {v:V} {d:PyData},n <= m->RdX H n v d->RdX H m v d
 | 0,0,_,_,_,h=>h
 | 0,m + 1,_,_,_,h=>.inl h
 | n + 1,m + 1,_,_,_,.inl h=>.inl h
 | n + 1,m + 1,_,_,hl,.inr (.inl ⟨a,us,ds,e,h,pr⟩)=>.inr (.inl ⟨a,us,ds,e,h,by
  clear h e
  induction pr with
  | nil=>exact .nil
  | cons h1 _ ih=>exact .cons (rdMono (Nat.le_of_succ_le_succ hl) h1) ih⟩)
 | n + 1,m + 1,_,_,_,.inr (.inr h)=>.inr (.inr h)
theorem Sh.pair {H:Hp} {u v:V} (h1:Sh H u) (h2:Sh H v):∃ d,DX 6 400002 d/\∀ (t:Addr) (H':Hp),Keep [] H H'->H' t=some (.tup [u,v])->RdX H' 6 (.ref t) d:=by
 obtain ⟨n1,W1,d1,r1,x1,a1,b1⟩:=h1
 obtain ⟨n2,W2,d2,r2,x2,a2,b2⟩:=h2
 refine ⟨.tuple [d1,d2],?_,fun t H' k ht=>.inr (.inl ⟨t,_,_,rfl,.inr ⟨ht,rfl⟩,.cons (rdMono a1 (rdKeep k r1)) (.cons (rdMono a2 (rdKeep k r2)) .nil)⟩)⟩
 refine (DX.tuple (n:=5) (W:=200000) (ds:=[d1,d2]) fun d hd=>?_).mono (Nat.le_refl _) (by show 2 * (200000 + 1) <= 400002;decide)
 rcases List.mem_cons.mp hd with rfl | hd
 ·exact x1.mono a1 b1
 ·rw [List.mem_singleton.mp hd];exact x2.mono a2 b2
theorem like_pairs2 {H:Hp}:∀ {qs rs:List Addr} {ps:List (Str × Str)},Paired (fun q r=>H q=some (.tup r)) qs (ps.map pairV)->Paired (fun q r=>H q=some (.tup r)) rs (ps.map pairV) ->
  ∀ (i:Nat) (u v:V),(qs.map V.ref)[i]?=some u->(rs.map V.ref)[i]?=some v->Like H 2 u v:=by
 intro qs rs ps h1 h2 i u v e1 e2
 rw [List.getElem?_map] at e1 e2
 cases f1:qs[i]? with
 | none=>rw [f1] at e1;cases e1
 | some a=>
 cases f2:rs[i]? with
 | none=>rw [f2] at e2;cases e2
 | some b=>
 rw [f1] at e1;rw [f2] at e2
 cases e1;cases e2
 obtain ⟨x,g1,t1⟩:=paired_get h1 i a f1
 obtain ⟨y,g2,t2⟩:=paired_get h2 i b f2
 rw [g1] at g2
 cases g2
 rw [List.getElem?_map] at g1
 cases gp:ps[i]? with
 | none=>rw [gp] at g1;cases g1
 | some p=>
 rw [gp] at g1
 cases g1
 refine .inr ⟨a,b,_,_,rfl,rfl,.inr ⟨t1,t2⟩,rfl,fun j u v e1 e2=>?_⟩
 rw [e1] at e2
 cases e2
 match j,e1 with
 | 0,e1=>cases e1;exact Like.str _
 | 1,e1=>cases e1;exact Like.str _
def spRi (K:PySem.W.Frag):Sp:=fun vs H Q _=>∃ hv tv,vs=[hv,tv]/\Dp K H 1 hv/\Dp K H 2 tv/\Sh H hv/\Sh H tv/\∀ H',Keep [] H H'->Q (.bl true) H'
theorem okRi (hsm:∃ o,base.get? sysModules=some o) (G:FunG K mg "_law_right" sRi ["_law_houses","_law_ties"]) (CMk:Cal P w K mg base CX0 7 "_law_made" ["_law_houses","_law_ties"] (spMk K)) (CIT:Cal P w K mg base CX0 2 "_law_is_tree" ["_law_houses","_law_ties"] (spIT K))
  (b_str:Blt mg "str") (b_sorted:Blt mg "sorted") (b_min:Blt mg "min") (b_max:Blt mg "max"):CalG P w K mg base 8 "_law_right" ["_law_houses","_law_ties"] (spRi K):=by
 refine G.okG scRi (fun vs H Q E h=>by obtain ⟨hv,tv,rfl,_⟩:=h;rfl) (fun f cdv A outer s0 H vs Q E hgd hr h=>?_)
 obtain ⟨hv,tv,rfl,dh,dt,sh,st,q⟩:=h
 have hr7:Room 7 _:=hr
 have hr2:Room 2 _:=hr.mono (by decide)
 have hu4':=hu4 hr
 have hu16:_ + 16 < cLine:=Nat.lt_of_le_of_lt (Nat.add_le_add_left (by decide:16 <= 64) _) hr.units
 refine ⟨_,(pss_cons (ps_set (i:=2) scRi.nd rfl (Or.inl rfl) (pe_callTy (call_strX hsm hgd hu16) rfl b_str.no bo_str (pa_cons (pe_tup (pa_cons (pv 0) (pa_cons (pv 1) pa_nil))) pa_nil))) (pss_cons (ps_set (i:=3) scRi.nd rfl (Or.inl rfl) (pe_cal CMk hr7 (pa_cons (pv 0) (pa_cons (pv 1) pa_nil)))) (pss_cons (ps_if (pt_cmpR op_ne (pe_callTy (call_strX hsm hgd hu16) rfl b_str.no bo_str (pa_cons (pe_tup (pa_cons (pv 0) (pa_cons (pv 1) pa_nil))) pa_nil)) (pv 2) (nomark _)) (pss_one (ps_ret pe_bl)) pss_nil) (pss_cons (ps_if (pt_not (pt_val (pe_cal CIT hr2 (pa_cons (pv 0) (pa_cons (pv 1) pa_nil))))) (pss_one (ps_ret (pe_cmpR op_eq (pv 3) pe_str (nomark _)))) pss_nil) (pss_one (ps_ret (pe_cmpR (op_eqTL hu4') (pv 3) (pe_tup (pa_cons (pe_blt call_sortedS b_sorted bo_sorted (pa_cons (pv 0) pa_nil)) (pa_cons (pe_blt call_sortedP b_sorted bo_sorted (pa_cons (pe_lc1 (N:=["_law_houses","_law_ties","_law_kept","_law_found"]) (sc:=defScope sRi) (ix:=[]) (by decide +kernel) (pi_list (pv 1)) (fun _ _ _ _=>pts_nil) (fun _ _ _ _=>(pe_tup (pa_cons (pe_blt (call_minT rfl) b_min bo_min (pa_cons (pv 0) pa_nil)) (pa_cons (pe_blt (call_maxT rfl) b_max bo_max (pa_cons (pv 0) pa_nil)) pa_nil))))) pa_nil)) pa_nil))) (nomark _)))))))),?_⟩
 refine ⟨_,rfl,_,rfl,by show 2 <= sizeLine;decide,fun t ht=>?_⟩
 have k1:Keep [] H (upd H t (.tup [hv,tv])):=Keep.new ht
 obtain ⟨d,dx,rd⟩:=sh.pair st
 refine ⟨t,6,400002,d,rfl,rd t _ k1 upd_same,dx,by decide,by decide,?_⟩
 generalize upd H t (.tup [hv,tv])=H1 at k1 ⊢
 refine ⟨_,rfl,_,rfl,hv,tv,rfl,dh.keep k1,dt.keep k1,fun zs ps isT r hl tl zs' ps' H2 pz sz pp sp er eh et2 k2=>?_,fun no H2 k2=>?_⟩
 ·have k12:=k1.trans k2
  refine ⟨_,rfl,_,rfl,by show 2 <= sizeLine;decide,fun t3 ht3=>?_⟩
  have k13:Keep [] H (upd H2 t3 (.tup [hv,tv])):=k12.trans (Keep.new ht3)
  refine ⟨t3,6,400002,d,rfl,rd t3 _ k13 upd_same,dx,by decide,by decide,_,rfl,rfl,_,rfl,ifF (by rw [decide_eq_true rfl];rfl) ?_⟩
  have k23:Keep [] H2 (upd H2 t3 (.tup [hv,tv])):=Keep.new ht3
  generalize upd H2 t3 (.tup [hv,tv])=H3 at k13 k23 ⊢
  refine ⟨_,rfl,_,rfl,hv,tv,rfl,dh.keep k13,dt.keep k13,fun b H4 hb k34=>⟨_,rfl,?_⟩⟩
  have isH:=isT.back dh dt k1
  obtain rfl:b=true:=hb.mpr ⟨zs,ps,isH.keep k13⟩
  refine ifF rfl ?_
  have k14:=k13.trans k34
  have k24:=k23.trans k34
  obtain ⟨⟨⟨a,rfl,ha,gz⟩,nd,l1⟩,⟨b,rfl,⟨qs,hbl,hbq⟩,tz,lp⟩,cn⟩:=isH
  have lz:=(dh.2 a rfl _ (.inl ha)).1
  rw [List.length_map] at lz
  have ha4:=k14 _ _ (by simp) ha
  have hbl4:=k14 _ _ (by simp) hbl
  have hbq4:=paired_far k14 (fun b hb=>absurd hb List.not_mem_nil) hbq
  have lq:=paired_len hbq
  rw [List.length_map] at lq
  refine ⟨_,rfl,_,rfl,a,zs,rfl,ha4,by omega,fun nl zs2 hnl pz2 sz2=>?_⟩
  have k45:Keep [] H4 (upd H4 nl (.lst (zs2.map V.str))):=Keep.new hnl
  have enl:upd H4 nl (.lst (zs2.map V.str)) nl=some (.lst (zs2.map V.str)):=upd_same
  generalize upd H4 nl (.lst (zs2.map V.str))=H5 at k45 enl ⊢
  have hbl5:=k45 _ _ (by simp) hbl4
  have hbq5:=paired_far k45 (fun b hb=>absurd hb List.not_mem_nil) hbq4
  refine ⟨_,rfl,b,rfl,⟨_,.of hbl5⟩,fun acc hacc=>?_⟩
  have ba:b ≠ acc:=ne_of_none hbl5 hacc
  refine lc_list0 (K:=K) (a:=b) (its:=qs.map V.ref) (by rw [List.length_map,sizeLine_eq];omega) (fun i ys τ H6=>∃ (k:Option V) (ts:List Addr),τ=[k]/\ys=ts.map V.ref/\Paired (fun q r=>H6 q=some (.tup r)) ts (((ps.take i).map normP).map pairV)/\Keep [acc] H5 H6/\H6 acc=some (.lst ys)) ?_ ?_ ?_ ?_
  ·exact ⟨_,[],rfl,rfl,.nil,Keep.at (by simp),upd_same⟩
  ·rintro i ys τ H6 ⟨k,ts,rfl,rfl,pt,kp,h6⟩
   refine ⟨h6,?_,.of (kp _ _ (by simp [ba]) hbl5)⟩
   have:=paired_len pt
   rw [List.length_map] at *
   rw [this,List.length_map,List.length_take];omega
  ·rintro i ys τ H6 x hx ⟨k,ts,rfl,rfl,pt,kp,h6⟩
   rw [List.getElem?_map] at hx
   cases et:qs[i]? with
   | none=>rw [et] at hx;cases hx
   | some t=>
   rw [et] at hx
   have ex:V.ref t=x:=Option.some.inj hx
   subst ex
   obtain ⟨r',er',ht⟩:=paired_get hbq5 i t et
   rw [List.getElem?_map] at er'
   cases ep:ps[i]? with
   | none=>rw [ep] at er';cases er'
   | some pr=>
   rw [ep] at er'
   have er'':pairV pr=r':=Option.some.inj er'
   subst er''
   have ta:t ≠ acc:=ne_of_none ht hacc
   have ht6:=kp _ _ (by simp [ta]) ht
   have tk:ps.take (i + 1)=ps.take i ++ [pr]:=by rw [List.take_add_one,ep];rfl
   refine ⟨_,rfl,t,pr.1,pr.2,rfl,ht6,_,rfl,t,pr.1,pr.2,rfl,ht6,by show 2 <= sizeLine;decide,fun t2 ht2=>?_⟩
   have k7:Keep [] H6 (upd H6 t2 (.tup [.str (minS pr.1 pr.2),.str (maxS pr.1 pr.2)])):=Keep.new ht2
   refine ⟨k7 _ _ (by simp) h6,_,ts ++ [t2],rfl,by rw [List.map_append];rfl,?_,(kp.trans (k7.mono (by simp))).trans (Keep.at (by simp)),upd_same⟩
   rw [tk,List.map_append,List.map_append]
   have a2:acc ≠ t2:=ne_of_none h6 ht2
   refine paired_snoc (paired_far (S:=[acc]) ((k7.mono (by simp)).trans (Keep.at (by simp))) (fun u hu xs e=>by rw [List.mem_singleton.mp hu,h6] at e;cases e) pt) ?_
   rw [upd_ne a2.symm]
   exact upd_same
  rintro ys τ H6 ⟨k,ts,rfl,rfl,pt,kp6,h6⟩
  rw [List.length_map,lq,List.take_length] at pt
  have k56:Keep [] H5 H6:=kp6.drop hacc
  refine ⟨acc,ts,ps.map normP,rfl,h6,pt,by rw [List.length_map];omega,fun pl qs' ps2 hpl pp2 sp2 hpr=>?_⟩
  have k67:Keep [] H6 (upd H6 pl (.lst (qs'.map V.ref))):=Keep.new hpl
  have epl:upd H6 pl (.lst (qs'.map V.ref)) pl=some (.lst (qs'.map V.ref)):=upd_same
  have hpr7:=paired_far k67 (fun b hb=>absurd hb List.not_mem_nil) hpr
  generalize upd H6 pl (.lst (qs'.map V.ref))=H7 at k67 epl hpr7 ⊢
  refine ⟨by show 2 <= sizeLine;decide,fun tt htt=>?_⟩
  have k78:Keep [] H7 (upd H7 tt (.tup [.ref nl,.ref pl])):=Keep.new htt
  have k48:=((k45.trans k56).trans k67).trans k78
  have k28:=k24.trans k48
  have ezs:zs'=zs2:=asc_uniq (fun a b=>ltS_tot) (pz.trans pz2.symm) sz sz2
  have eps:ps'=ps2:=asc_uniq (fun a b=>ltP_tot) (pp.trans pp2.symm) sp sp2
  subst ezs eps
  obtain ⟨rs,ers,prs⟩:=et2.keep k28
  refine ⟨r,tt,_,_,rfl,rfl,k28 _ _ (by simp) er,upd_same,rfl,fun i u v e1 e2=>?_,q _ (k14.trans k48)⟩
  match i,e1,e2 with
  | 0,e1,e2=>
   cases e1;cases e2
   exact .inr ⟨hl,nl,_,_,rfl,rfl,.inl ⟨k28 _ _ (by simp) eh,((k56.trans k67).trans k78) _ _ (by simp) enl⟩,rfl,like_texts zs'⟩
  | 1,e1,e2=>
   cases e1;cases e2
   refine .inr ⟨tl,pl,_,_,rfl,rfl,.inl ⟨ers,k78 _ _ (by simp) epl⟩,?_,?_⟩
   ·rw [List.length_map,List.length_map,paired_len prs,paired_len hpr]
   ·exact like_pairs2 prs (paired_far k78 (fun b hb=>absurd hb List.not_mem_nil) hpr7)
 ·have k12:=k1.trans k2
  refine ⟨_,rfl,_,rfl,by show 2 <= sizeLine;decide,fun t3 ht3=>?_⟩
  have k13:Keep [] H (upd H2 t3 (.tup [hv,tv])):=k12.trans (Keep.new ht3)
  refine ⟨t3,6,400002,d,rfl,rd t3 _ k13 upd_same,dx,by decide,by decide,_,rfl,rfl,_,rfl,ifF (by rw [decide_eq_true rfl];rfl) ?_⟩
  generalize upd H2 t3 (.tup [hv,tv])=H3 at k13 ⊢
  refine ⟨_,rfl,_,rfl,hv,tv,rfl,dh.keep k13,dt.keep k13,fun b H4 hb k34=>⟨_,rfl,?_⟩⟩
  cases b with
  | true=>
   obtain ⟨zs,ps,t⟩:=hb.mp rfl
   exact absurd ⟨zs,ps,(t.back dh dt k13).keep k1⟩ no
  | false=>
   refine ifT rfl ⟨_,rfl,rfl,?_⟩
   rw [show decide (V.str "none"=V.str "none")=true from decide_eq_true rfl]
   exact q _ (k13.trans k34)
end
abbrev sON:Stmt:=top 39
section
variable {P:Program} {w:World} {K:PySem.W.Frag} {mg:Str->Option Value} {base:Heap} {C:Addr}
theorem scON:FnScope ["_law_source","_law_names_here","_law_name","_law_at","_law_sign"] ["_law_source","_law_names_here"] (defScope sON):=⟨rfl,rfl,rfl,by decide +kernel,rfl,by decide +kernel,by decide +kernel⟩
def sc:V->Prop
 | .non=>True
 | .bl _=>True
 | .int i=>0 <= i/\i < 1000000
 | .str z=>z.length <= 40/\∀ c ∈ z.cps.toList,c < 1000
 | _=>False
def Tg (H:Hp) (p:Addr):Nat->V->Prop
 | 0,v=>sc v
 | n + 1,v=>sc v \/ (∃ a us,v=.ref a/\a ≠ p/\(H a=some (.lst us) \/ H a=some (.tup us))/\us.length < 4/\∀ u ∈ us,Tg H p n u) \/ ∃ a kvs,v=.ref a/\a ≠ p/\H a=some (.dK kvs)/\kvs.length < 4/\∀ kv ∈ kvs,sc (kV kv.1)/\sc kv.2
theorem Tg.of {H:Hp} {p:Addr} {v:V} (h:sc v):∀ (n:Nat),Tg H p n v
 | 0=>h
 | _ + 1=>.inl h
theorem Tg.mono {H:Hp} {p:Addr}:∀ {n m:Nat} {v:V},n <= m->Tg H p n v->Tg H p m v
 | 0,m,_,_,h=>Tg.of h m
 | n + 1,m + 1,_,_,.inl h=>.inl h
 | n + 1,m + 1,_,l,.inr (.inl ⟨a,us,e,ne,h,hl,g⟩)=>.inr (.inl ⟨a,us,e,ne,h,hl,fun u hu=>Tg.mono (Nat.le_of_succ_le_succ l) (g u hu)⟩)
 | n + 1,m + 1,_,_,.inr (.inr h)=>.inr (.inr h)
theorem Tg.keep {H H':Hp} {p:Addr} (k:Keep [p] H H'):∀ {n:Nat} {v:V},Tg H p n v->Tg H' p n v
 | 0,_,h=>h
 | n + 1,_,.inl h=>.inl h
 | n + 1,_,.inr (.inl ⟨a,us,e,ne,h,hl,g⟩)=>.inr (.inl ⟨a,us,e,ne,h.imp (k _ _ (by simp [ne])) (k _ _ (by simp [ne])),hl,fun u hu=>Tg.keep k (g u hu)⟩)
 | n + 1,_,.inr (.inr ⟨a,kvs,e,ne,h,r⟩)=>.inr (.inr ⟨a,kvs,e,ne,k _ _ (by simp [ne]) h,r⟩)
theorem Tg.lst {H:Hp} {p a:Addr} {us:List V} {n:Nat} (ha:H a=some (.lst us)) (ne:a ≠ p) (l:us.length < 4) (g:∀ u ∈ us,Tg H p n u):Tg H p (n + 1) (.ref a):=.inr (.inl ⟨a,us,rfl,ne,.inl ha,l,g⟩)
theorem Tg.tup {H:Hp} {p a:Addr} {us:List V} {n:Nat} (ha:H a=some (.tup us)) (ne:a ≠ p) (l:us.length < 4) (g:∀ u ∈ us,Tg H p n u):Tg H p (n + 1) (.ref a):=.inr (.inl ⟨a,us,rfl,ne,.inr ha,l,g⟩)
theorem sc_pl {H:Hp}:∀ {v:V},sc v->Pl K H v
 | .non,_=>⟨⟨_,.non⟩,nofun⟩
 | .bl b,_=>⟨⟨_,.bl b⟩,nofun⟩
 | .int i,_=>⟨⟨_,.int i⟩,nofun⟩
 | .str z,h=>⟨⟨_,.str z⟩,fun y e=>by cases e;have:=h.1;omega⟩
theorem sc_no {v:V} (h:sc v) (a:Addr):v ≠ .ref a:=fun e=>by rw [e] at h;exact h
theorem Tg.dp {H:Hp} {p:Addr}:∀ {n:Nat} {v:V},Tg H p n v->Dp K H n v
 | 0,_,h=>sc_pl h
 | n + 1,_,.inl h=>⟨sc_pl h,fun a e=>absurd e (sc_no h a)⟩
 | n + 1,_,.inr (.inl ⟨a,us,e,ne,h,hl,g⟩)=>by
  subst e
  refine ⟨⟨h.elim (fun h=>⟨_,.lst h⟩) (fun h=>⟨_,.tup h⟩),nofun⟩,fun b eb vs hv=>?_⟩
  cases eb
  have ev:us=vs:=by
   rcases h with h | h <;> rcases hv with hv | hv <;> rw [h] at hv <;> (injection hv with hv) <;> first | (injection hv with hv) | cases hv
  subst ev
  exact ⟨by omega,fun u hu=>(g u hu).dp⟩
 | n + 1,_,.inr (.inr ⟨a,kvs,e,ne,h,r⟩)=>by
  subst e
  refine ⟨⟨⟨_,.dK h⟩,nofun⟩,fun b eb vs hv=>?_⟩
  cases eb
  rcases hv with hv | hv <;> (rw [h] at hv;cases hv)
def Wt:Nat->Nat
 | 0=>40
 | n + 1=>4 * (2 * Wt n + 2)
theorem sc_d {v:V} (h:sc v):flP v=true/\DX 0 40 (dOf v):=by
 cases v with
 | non=>exact ⟨rfl,(dok_non.dx).mono (Nat.le_refl _) (by decide)⟩
 | bl b=>exact ⟨rfl,(dx_bl b).mono (Nat.le_refl _) (by decide)⟩
 | int i=>
  obtain ⟨n,rfl⟩:=Int.eq_ofNat_of_zero_le h.1
  exact ⟨rfl,((dok_int (n:=n) (by have:=h.2;omega)).dx).mono (Nat.le_refl _) (by decide)⟩
 | str z=>exact ⟨rfl,(dok_str h.2 h.1).dx⟩
 | _=>exact h.elim
theorem Wt_le:∀ (n:Nat),40 <= Wt n
 | 0=>by decide
 | n + 1=>by
  have:=Wt_le n
  show 40 <= 4 * (2 * Wt n + 2)
  omega
theorem Tg.sh {H:Hp} {p:Addr}:∀ {n:Nat} {v:V},Tg H p n v->∃ d,RdX H n v d/\DX n (Wt n) d
 | 0,_,h=>⟨_,⟨(sc_d h).1,rfl⟩,(sc_d h).2⟩
 | n + 1,_,.inl h=>⟨_,.inl ⟨(sc_d h).1,rfl⟩,(sc_d h).2.mono (Nat.zero_le _) (Wt_le _)⟩
 | n + 1,_,.inr (.inl ⟨a,us,e,ne,h,hl,g⟩)=>by
  subst e
  have all:∃ ds,Paired (RdX H n) us ds/\(∀ d ∈ ds,DX n (Wt n) d)/\ds.length=us.length:=by
   clear h hl
   induction us with
   | nil=>exact ⟨[],.nil,fun d h=>absurd h List.not_mem_nil,rfl⟩
   | cons u us ih=>
    obtain ⟨ds,pr,q,l⟩:=ih fun u hu=>g u (List.mem_cons_of_mem _ hu)
    obtain ⟨d,r,x⟩:=Tg.sh (g u List.mem_cons_self)
    refine ⟨d :: ds,.cons r pr,fun y hy=>?_,by rw [List.length_cons,List.length_cons,l]⟩
    rcases List.mem_cons.mp hy with rfl | hy
    ·exact x
    ·exact q y hy
  obtain ⟨ds,pr,q,l⟩:=all
  have w:ds.length * (Wt n + 1) <= Wt (n + 1):=by
   show ds.length * (Wt n + 1) <= 4 * (2 * Wt n + 2)
   exact Nat.mul_le_mul (by omega) (by omega)
  rcases h with h | h
  ·exact ⟨.list ds,.inr (.inl ⟨a,us,ds,rfl,.inl ⟨h,rfl⟩,pr⟩),(DX.list q).mono (Nat.le_refl _) w⟩
  ·exact ⟨.tuple ds,.inr (.inl ⟨a,us,ds,rfl,.inr ⟨h,rfl⟩,pr⟩),(DX.tuple q).mono (Nat.le_refl _) w⟩
 | n + 1,_,.inr (.inr ⟨a,kvs,e,ne,h,hl,g⟩)=>by
  subst e
  refine ⟨_,.inr (.inr ⟨a,kvs,rfl,h,fun kv hk=>(sc_d (g kv hk).2).1,rfl⟩),(dx_dict (W:=40) fun q hq=>?_).mono (by omega) ?_⟩
  ·obtain ⟨kv,hk,rfl⟩:=List.mem_map.mp hq
   exact ⟨(sc_d (g kv hk).1).2,(sc_d (g kv hk).2).2⟩
  ·rw [List.length_map]
   show kvs.length * (2 * 40 + 2) <= 4 * (2 * Wt n + 2)
   have:=Wt_le n
   exact Nat.mul_le_mul (by omega) (by omega)
theorem letter_in {c:Nat} (h:letterB c=true):c ∈ abc.cps.toList:=by
 unfold letterB at h
 rw [StrLaws.found_one] at h
 exact of_decide_eq_true h
theorem abc_1000:∀ c ∈ abc.cps.toList,c < 1000:=by decide +kernel
def Lo (z:Str):Prop:=∀ c ∈ z.cps.toList,c < 1000
theorem good_lo {z:Str} (g:GoodN z):Lo z:=fun c hc=>by
 have h:=g.1
 unfold nameS at h
 simp only [Bool.and_eq_true,List.all_eq_true] at h
 exact abc_1000 c (letter_in (h.2 c hc))
theorem good_sc {z:Str} (g:GoodN z):sc (.str z):=⟨by have:=g.2;omega,good_lo g⟩
theorem lo_app {x y:Str} (h1:Lo x) (h2:Lo y):Lo (x ++ y):=by
 intro c hc
 have e:(x ++ y).cps.toList=x.cps.toList ++ y.cps.toList:=by
  show (x.cps ++ y.cps).toList=_
  simp
 rw [e] at hc
 exact (List.mem_append.mp hc).elim (h1 c) (h2 c)
theorem lo_slice {x:Str} (h:Lo x) (lo hi:Option Int):Lo (Txt.slice x lo hi):=by
 intro c hc
 unfold Txt.slice at hc
 split at hc
 ·exact h c hc
 ·simp only [List.mem_filterMap] at hc
  obtain ⟨i,_,e⟩:=hc
  exact h c (by
   rw [<- Array.getElem?_toList] at e
   exact List.mem_of_getElem? e)
theorem abch_lo:Lo "abcdefgh":=by
 show ∀ c ∈ ("abcdefgh" : Str).cps.toList,c < 1000
 decide +kernel
theorem sc_empty:sc (.str ""):=by
 refine ⟨by decide +kernel,?_⟩
 show ∀ c ∈ ("" : Str).cps.toList,c < 1000
 decide +kernel
def oddS:Str:="AZ09 -_.\n"
theorem oddS_lo:∀ c ∈ oddS.cps.toList,c < 1000:=by decide +kernel
def spON:Sp:=fun vs H Q _=>∃ (p la:Addr) (zs:List Str),vs=[.ref p,.ref la]/\Src H p/\H la=some (.lst (zs.map V.str))/\(∀ z ∈ zs,GoodN z)/\zs ≠ []/\zs.length < 60/\∀ (v:V) (H':Hp),Tg H' p 1 v->Src H' p->Keep [p] H H'->Q v H'
theorem okON (G:FunG K mg "_law_odd_name" sON ["_law_source","_law_names_here"]) (CN:Cal P w K mg base CX0 2 "_law_next" ["_law_source","_law_many"] spNext) (b_len:Blt mg "len"):Cal P w K mg base CX0 3 "_law_odd_name" ["_law_source","_law_names_here"] spON:=by
 refine G.ok scON (fun vs H Q E h=>by obtain ⟨p,la,zs,rfl,_⟩:=h;rfl) (fun f cdv A outer s0 H vs Q E hr h=>?_)
 obtain ⟨p,la,zs,rfl,⟨a,b,c,hp⟩,hla,gz,ne,lz,q⟩:=h
 have hr2:Room 2 _:=hr
 refine ⟨_,(pss_cons (ps_set (i:=2) scON.nd rfl (Or.inl rfl) (pe_ix ix_lstH (pv 1) (pe_cal CN hr2 (pa_cons (pv 0) (pa_cons (pe_blt call_len b_len bo_len (pa_cons (pv 1) pa_nil)) pa_nil))) (fun _ _=>rfl)))
   (pss_cons (ps_set (i:=3) scON.nd rfl (Or.inl rfl) (pe_cal CN hr2 (pa_cons (pv 0) (pa_cons (pe_op op_add (pe_blt call_len b_len bo_len (pa_cons (pv 2) pa_nil)) pe_int) pa_nil))))
   (pss_cons (ps_set (i:=4) scON.nd rfl (Or.inl rfl) (pe_ix ix_str pe_str (pe_cal CN hr2 (pa_cons (pv 0) (pa_cons pe_int pa_nil))) (fun _ _=>rfl)))
   (pss_one (ps_ret (pe_ix ix_lstH (pe_lst (pa_cons (pe_op op_add_str (pe_op op_add_str (pe_slice sl_str (pv 2) po_none (po_some (pv 3))) (pv 4)) (pe_slice sl_str (pv 2) (po_some (pv 3)) po_none)) (pa_cons (pe_op op_add_str (pv 2) pe_str) (pa_cons pe_str (pa_cons pe_non (pa_cons pe_int (pa_cons pe_bl (pa_cons (pe_lst (pa_cons (pv 2) pa_nil)) (pa_cons (pe_tup (pa_cons (pv 2) pa_nil)) pa_nil))))))))) (pe_cal CN hr2 (pa_cons (pv 0) (pa_cons pe_int pa_nil))) (fun _ _=>rfl))))))),?_⟩
 have lap:la ≠ p:=by
  intro e
  rw [e,hp] at hla
  injection hla with h;injection h with h
  cases zs with
  | nil=>exact ne rfl
  | cons z t=>injection h with h _;cases h
 have lpos:0 < zs.length:=List.length_pos_iff.mpr ne
 refine ⟨_,rfl,_,rfl,_,rfl,_,_,rfl,.inl ⟨_,.of hla,rfl⟩,p,a,b,c,_,rfl,hp,by rw [List.length_map];omega,by rw [List.length_map];omega,fun i a1 c1 i0 i1=>?_⟩
 obtain ⟨u,hu1,hu2⟩:=atI_in (xs:=zs.map V.str) i0 i1
 obtain ⟨z,hz,rfl⟩:∃ z ∈ zs,V.str z=u:=List.mem_map.mp (List.mem_of_getElem? hu2)
 have g:=gz z hz
 have lo:=good_lo g
 have l8:=g.2
 have zs':z.length <= sizeLine:=by rw [sizeLine_eq];omega
 refine ⟨la,_,i,_,rfl,rfl,by rw [upd_ne lap];exact hla,hu1,?_⟩
 refine ⟨_,rfl,_,rfl,_,z.length,rfl,⟨zs',rfl⟩,_,_,rfl,rfl,p,a1,b,c1,_,rfl,upd_same,by omega,by omega,fun k a2 c2 k0 k1=>?_⟩
 rw [upd_upd]
 refine ⟨_,rfl,p,a2,b,c2,9,rfl,upd_same,by decide,by decide,fun m a3 c3 m0 m1=>?_⟩
 rw [upd_upd]
 obtain ⟨ch,hc1,hc2⟩:=atI_in (xs:=oddS.cps.toList) m0 (show m < ((9:Nat):Int) from m1)
 have lch:Lo ⟨#[ch]⟩:=fun x hx=>by
  have e:x=ch:=by simpa using hx
  rw [e];exact oddS_lo ch (List.mem_of_getElem? hc2)
 refine ⟨_,m,ch,rfl,rfl,by decide,hc1,?_⟩
 have hp3:upd H p (.lst [.int a3,.int b,.int c3]) p=some (.lst [.int a3,.int b,.int c3]):=upd_same
 have k3:Keep [p] H (upd H p (.lst [.int a3,.int b,.int c3])):=Keep.at (by simp)
 generalize upd H p (.lst [.int a3,.int b,.int c3])=H3 at hp3 k3 ⊢
 have e1:=Txt.slice_le z none (some k)
 have e2:=Txt.slice_le z (some k) none
 have s1:sc (.str (Txt.slice z none (some k) ++ ⟨#[ch]⟩ ++ Txt.slice z (some k) none)):=⟨by rw [len_app,len_app];show _ + 1 + _ <= _;omega,lo_app (lo_app (lo_slice lo _ _) lch) (lo_slice lo _ _)⟩
 have s2:sc (.str (z ++ "abcdefgh")):=⟨by rw [len_app];show _ + 8 <= _;omega,lo_app lo abch_lo⟩
 refine ⟨_,rfl,_,rfl,_,rfl,z,rfl,zs',_,rfl,_,_,rfl,rfl,by rw [sizeLine_eq];show _ + 1 <= _;omega,_,rfl,_,rfl,_,rfl,z,rfl,zs',_,_,rfl,rfl,by rw [len_app,sizeLine_eq];show _ + 1 + _ <= _;omega,_,rfl,_,_,rfl,rfl,by rw [sizeLine_eq];show _ + 8 <= _;omega,_,rfl,by show 1 <= sizeLine;decide,fun l1 h1=>⟨_,rfl,by show 1 <= sizeLine;decide,fun t1 h2=>⟨by show 8 <= sizeLine;decide,fun ll hll=>?_⟩⟩⟩
 have kl:Keep [] H3 (upd H3 l1 (.lst [.str z])):=Keep.new h1
 have kt:Keep [] (upd H3 l1 (.lst [.str z])) (upd (upd H3 l1 (.lst [.str z])) t1 (.tup [.str z])):=Keep.new h2
 have l1p:l1 ≠ p:=Ne.symm (ne_of_none hp3 h1)
 have t1p:t1 ≠ p:=Ne.symm (ne_of_none (kl _ _ (by simp) hp3) h2)
 have hp5:=(kl.trans kt) _ _ (by simp) hp3
 have llp:ll ≠ p:=Ne.symm (ne_of_none hp5 hll)
 have el:upd (upd H3 l1 (.lst [.str z])) t1 (.tup [.str z]) l1=some (.lst [.str z]):=kt _ _ (by simp) upd_same
 have e3:upd (upd H3 l1 (.lst [.str z])) t1 (.tup [.str z]) t1=some (.tup [.str z]):=upd_same
 have k35:=kl.trans kt
 generalize upd (upd H3 l1 (.lst [.str z])) t1 (.tup [.str z])=H5 at hp5 hll el e3 k35 ⊢
 have k6:∀ o,Keep [] H5 (upd H5 ll o):=fun o=>Keep.new hll
 refine ⟨_,rfl,p,a3,b,c3,8,rfl,k6 _ _ _ (by simp) hp5,by decide,by decide,fun j a4 c4 j0 j1=>?_⟩
 obtain ⟨v,hv1,hv2⟩:=atI_in (xs:=[V.str (Txt.slice z none (some k) ++ ⟨#[ch]⟩ ++ Txt.slice z (some k) none),.str (z ++ "abcdefgh"),.str "",.non,.int 7,.bl true,.ref l1,.ref t1]) j0 j1
 have kf:∀ o,Keep [p] H5 (upd (upd H5 ll o) p (.lst [.int a4,.int b,.int c4])):=fun o=>((k6 o).mono (by simp)).trans (Keep.at (by simp))
 refine ⟨ll,_,j,v,rfl,rfl,by rw [upd_ne llp];exact upd_same,hv1,q v _ ?_ ⟨_,_,_,upd_same⟩ ((k3.trans (k35.mono (by simp))).trans (kf _))⟩
 have one:∀ u ∈ [V.str z],Tg H5 p 0 u:=fun u hu=>by rw [List.mem_singleton.mp hu];exact good_sc g
 refine Tg.keep (kf _) ?_
 have hm:=List.mem_of_getElem? hv2
 simp only [List.mem_cons,List.not_mem_nil,or_false] at hm
 rcases hm with rfl | rfl | rfl | rfl | rfl | rfl | rfl | rfl
 ·exact .of s1 1
 ·exact .of s2 1
 ·exact Tg.of (v:=.str "") sc_empty 1
 ·exact Tg.of (v:=.non) trivial 1
 ·exact Tg.of (v:=.int 7) ⟨by decide,by decide⟩ 1
 ·exact Tg.of (v:=.bl true) trivial 1
 ·exact Tg.lst el l1p (by show 1 < 4;decide) one
 ·exact Tg.tup e3 t1p (by show 1 < 4;decide) one
end
abbrev sOT:Stmt:=top 40
section
variable {P:Program} {w:World} {K:PySem.W.Frag} {mg:Str->Option Value} {base:Heap} {C:Addr}
theorem scOT:FnScope ["_law_source","_law_names_here","_law_one","_law_other","_law_odd","_law_some"] ["_law_source","_law_names_here"] (defScope sOT):=⟨rfl,rfl,rfl,by decide +kernel,rfl,by decide +kernel,by decide +kernel⟩
theorem sc_qq:sc (.str "qq"):=by
 refine ⟨by decide +kernel,?_⟩
 show ∀ c ∈ ("qq" : Str).cps.toList,c < 1000
 decide +kernel
theorem src_ne {H:Hp} {p l:Addr} {a b c:Int} {zs:List Str} (h1:H p=some (.lst [.int a,.int b,.int c])) (h2:H l=some (.lst (zs.map V.str))) (ne:zs ≠ []):l ≠ p:=by
 intro e
 rw [e,h1] at h2
 injection h2 with h;injection h with h
 cases zs with
 | nil=>exact ne rfl
 | cons z t=>injection h with h _;cases h
theorem all1 {P:V->Prop} {a:V} (ha:P a):∀ u ∈ [a],P u:=fun u hu=>by rw [List.mem_singleton.mp hu];exact ha
theorem all2 {P:V->Prop} {a b:V} (ha:P a) (hb:P b):∀ u ∈ [a,b],P u:=fun u hu=>(List.mem_cons.mp hu).elim (fun e=>by rw [e];exact ha) (all1 hb u)
theorem all3 {P:V->Prop} {a b c:V} (ha:P a) (hb:P b) (hc:P c):∀ u ∈ [a,b,c],P u:=fun u hu=>(List.mem_cons.mp hu).elim (fun e=>by rw [e];exact ha) (all2 hb hc u)
def spOT:Sp:=fun vs H Q _=>∃ (p la:Addr) (zs:List Str),vs=[.ref p,.ref la]/\Src H p/\H la=some (.lst (zs.map V.str))/\(∀ z ∈ zs,GoodN z)/\zs ≠ []/\zs.length < 60/\∀ (v:V) (H':Hp),Tg H' p 2 v->Src H' p->Keep [p] H H'->Q v H'
theorem okOT (G:FunG K mg "_law_odd_tie" sOT ["_law_source","_law_names_here"]) (CN:Cal P w K mg base CX0 2 "_law_next" ["_law_source","_law_many"] spNext) (CO:Cal P w K mg base CX0 3 "_law_odd_name" ["_law_source","_law_names_here"] spON) (b_len:Blt mg "len"):Cal P w K mg base CX0 4 "_law_odd_tie" ["_law_source","_law_names_here"] spOT:=by
 refine G.ok scOT (fun vs H Q E h=>by obtain ⟨p,la,zs,rfl,_⟩:=h;rfl) (fun f cdv A outer s0 H vs Q E hr h=>?_)
 obtain ⟨p,la,zs,rfl,⟨a,b,c,hp⟩,hla,gz,ne,lz,q⟩:=h
 have hr3:Room 3 _:=hr
 have hr2:Room 2 _:=hr.mono (by decide)
 refine ⟨_,(pss_cons (ps_set (i:=2) scOT.nd rfl (Or.inl rfl) (pe_ix ix_lstH (pv 1) (pe_cal CN hr2 (pa_cons (pv 0) (pa_cons (pe_blt call_len b_len bo_len (pa_cons (pv 1) pa_nil)) pa_nil))) (fun _ _=>rfl)))
   (pss_cons (ps_set (i:=3) scOT.nd rfl (Or.inl rfl) (pe_ix ix_lstH (pv 1) (pe_cal CN hr2 (pa_cons (pv 0) (pa_cons (pe_blt call_len b_len bo_len (pa_cons (pv 1) pa_nil)) pa_nil))) (fun _ _=>rfl)))
   (pss_cons (ps_set (i:=4) scOT.nd rfl (Or.inl rfl) (pe_cal CO hr3 (pa_cons (pv 0) (pa_cons (pv 1) pa_nil))))
   (pss_cons (ps_set (i:=5) scOT.nd rfl (Or.inl rfl) (pe_lst (pa_cons (pe_tup (pa_cons (pv 2) (pa_cons (pv 2) pa_nil))) (pa_cons (pe_tup (pa_cons (pv 2) pa_nil)) (pa_cons (pe_tup (pa_cons (pv 2) (pa_cons (pv 3) (pa_cons (pv 2) pa_nil)))) (pa_cons (pe_lst (pa_cons (pv 2) (pa_cons (pv 3) pa_nil))) (pa_cons (pe_tup (pa_cons (pv 2) (pa_cons pe_str pa_nil))) (pa_cons (pe_tup (pa_cons pe_str (pa_cons (pv 2) pa_nil))) (pa_cons (pe_tup (pa_cons (pv 4) (pa_cons (pv 2) pa_nil))) (pa_cons (pe_tup (pa_cons (pv 2) (pa_cons (pv 4) pa_nil))) pa_nil))))))))))
   (pss_one (ps_ret (pe_ix ix_lstH (pe_op op_cat (pv 5) (pe_lst (pa_cons pe_non (pa_cons (pv 2) (pa_cons pe_dnewK (pa_cons (pe_tup pa_nil) pa_nil)))))) (pe_cal CN hr2 (pa_cons (pv 0) (pa_cons pe_int pa_nil))) (fun _ _=>rfl)))))))),?_⟩
 have lap:la ≠ p:=src_ne hp hla ne
 have lpos:0 < zs.length:=List.length_pos_iff.mpr ne
 refine ⟨_,rfl,_,rfl,_,rfl,_,_,rfl,.inl ⟨_,.of hla,rfl⟩,p,a,b,c,_,rfl,hp,by rw [List.length_map];omega,by rw [List.length_map];omega,fun i a1 c1 i0 i1=>?_⟩
 obtain ⟨u,hu1,hu2⟩:=atI_in (xs:=zs.map V.str) i0 i1
 obtain ⟨z1,hz1,rfl⟩:∃ z ∈ zs,V.str z=u:=List.mem_map.mp (List.mem_of_getElem? hu2)
 have hla1:upd H p (.lst [.int a1,.int b,.int c1]) la=some (.lst (zs.map V.str)):=by rw [upd_ne lap];exact hla
 refine ⟨la,_,i,_,rfl,rfl,hla1,hu1,?_⟩
 refine ⟨_,rfl,_,rfl,_,rfl,_,_,rfl,.inl ⟨_,.of hla1,rfl⟩,p,a1,b,c1,_,rfl,upd_same,by rw [List.length_map];omega,by rw [List.length_map];omega,fun j a2 c2 j0 j1=>?_⟩
 rw [upd_upd]
 obtain ⟨u,hw1,hw2⟩:=atI_in (xs:=zs.map V.str) j0 j1
 obtain ⟨z2,hz2,rfl⟩:∃ z ∈ zs,V.str z=u:=List.mem_map.mp (List.mem_of_getElem? hw2)
 have hla2:upd H p (.lst [.int a2,.int b,.int c2]) la=some (.lst (zs.map V.str)):=by rw [upd_ne lap];exact hla
 refine ⟨la,_,j,_,rfl,rfl,hla2,hw1,?_⟩
 have k2:Keep [p] H (upd H p (.lst [.int a2,.int b,.int c2])):=Keep.at (by simp)
 refine ⟨_,rfl,_,rfl,p,la,zs,rfl,⟨_,_,_,upd_same⟩,hla2,gz,ne,lz,fun odd H3 to ⟨a3,b3,c3,hp3⟩ k23=>?_⟩
 have k3:=k2.trans k23
 have s1:=good_sc (gz z1 hz1)
 have s2:=good_sc (gz z2 hz2)
 have to0:=to
 have p0:=hp3
 refine ⟨_,rfl,_,rfl,by show 2 <= sizeLine;decide,fun t0 h0=>?_⟩
 have k0':Keep [] H3 (upd H3 t0 (.tup [.str z1,.str z1])):=Keep.new h0
 have q0:t0 ≠ p:=Ne.symm (ne_of_none p0 h0)
 have w0:Tg (upd H3 t0 (.tup [.str z1,.str z1])) p 2 (.ref t0):=Tg.tup upd_same q0 (by show 2 < 4;decide) (fun u hu=>Tg.keep (k0'.mono (by simp)) (all2 (Tg.of s1 1) (Tg.of s1 1) u hu))
 have p1:=k0' _ _ (by simp) p0
 have to1:=Tg.keep (k0'.mono (by simp)) to0
 generalize upd H3 t0 (.tup [.str z1,.str z1])=H4 at k0' w0 p1 to1 ⊢
 refine ⟨_,rfl,by show 1 <= sizeLine;decide,fun t1 h1=>?_⟩
 have k1':Keep [] H4 (upd H4 t1 (.tup [.str z1])):=Keep.new h1
 have q1:t1 ≠ p:=Ne.symm (ne_of_none p1 h1)
 have w1:Tg (upd H4 t1 (.tup [.str z1])) p 2 (.ref t1):=Tg.tup upd_same q1 (by show 1 < 4;decide) (fun u hu=>Tg.keep (k1'.mono (by simp)) (all1 (Tg.of s1 1) u hu))
 have p2:=k1' _ _ (by simp) p1
 have to2:=Tg.keep (k1'.mono (by simp)) to1
 generalize upd H4 t1 (.tup [.str z1])=H5 at k1' w1 p2 to2 ⊢
 refine ⟨_,rfl,_,rfl,_,rfl,by show 3 <= sizeLine;decide,fun t2 h2=>?_⟩
 have k2':Keep [] H5 (upd H5 t2 (.tup [.str z1,.str z2,.str z1])):=Keep.new h2
 have q2:t2 ≠ p:=Ne.symm (ne_of_none p2 h2)
 have w2:Tg (upd H5 t2 (.tup [.str z1,.str z2,.str z1])) p 2 (.ref t2):=Tg.tup upd_same q2 (by show 3 < 4;decide) (fun u hu=>Tg.keep (k2'.mono (by simp)) (all3 (Tg.of s1 1) (Tg.of s2 1) (Tg.of s1 1) u hu))
 have p3:=k2' _ _ (by simp) p2
 have to3:=Tg.keep (k2'.mono (by simp)) to2
 generalize upd H5 t2 (.tup [.str z1,.str z2,.str z1])=H6 at k2' w2 p3 to3 ⊢
 refine ⟨_,rfl,_,rfl,by show 2 <= sizeLine;decide,fun t3 h3=>?_⟩
 have k3':Keep [] H6 (upd H6 t3 (.lst [.str z1,.str z2])):=Keep.new h3
 have q3:t3 ≠ p:=Ne.symm (ne_of_none p3 h3)
 have w3:Tg (upd H6 t3 (.lst [.str z1,.str z2])) p 2 (.ref t3):=Tg.lst upd_same q3 (by show 2 < 4;decide) (fun u hu=>Tg.keep (k3'.mono (by simp)) (all2 (Tg.of s1 1) (Tg.of s2 1) u hu))
 have p4:=k3' _ _ (by simp) p3
 have to4:=Tg.keep (k3'.mono (by simp)) to3
 generalize upd H6 t3 (.lst [.str z1,.str z2])=H7 at k3' w3 p4 to4 ⊢
 refine ⟨_,rfl,by show 2 <= sizeLine;decide,fun t4 h4=>?_⟩
 have k4':Keep [] H7 (upd H7 t4 (.tup [.str z1,.str "qq"])):=Keep.new h4
 have q4:t4 ≠ p:=Ne.symm (ne_of_none p4 h4)
 have w4:Tg (upd H7 t4 (.tup [.str z1,.str "qq"])) p 2 (.ref t4):=Tg.tup upd_same q4 (by show 2 < 4;decide) (fun u hu=>Tg.keep (k4'.mono (by simp)) (all2 (Tg.of s1 1) (Tg.of sc_qq 1) u hu))
 have p5:=k4' _ _ (by simp) p4
 have to5:=Tg.keep (k4'.mono (by simp)) to4
 generalize upd H7 t4 (.tup [.str z1,.str "qq"])=H8 at k4' w4 p5 to5 ⊢
 refine ⟨_,rfl,by show 2 <= sizeLine;decide,fun t5 h5=>?_⟩
 have k5':Keep [] H8 (upd H8 t5 (.tup [.str "qq",.str z1])):=Keep.new h5
 have q5:t5 ≠ p:=Ne.symm (ne_of_none p5 h5)
 have w5:Tg (upd H8 t5 (.tup [.str "qq",.str z1])) p 2 (.ref t5):=Tg.tup upd_same q5 (by show 2 < 4;decide) (fun u hu=>Tg.keep (k5'.mono (by simp)) (all2 (Tg.of sc_qq 1) (Tg.of s1 1) u hu))
 have p6:=k5' _ _ (by simp) p5
 have to6:=Tg.keep (k5'.mono (by simp)) to5
 generalize upd H8 t5 (.tup [.str "qq",.str z1])=H9 at k5' w5 p6 to6 ⊢
 refine ⟨_,rfl,_,rfl,by show 2 <= sizeLine;decide,fun t6 h6=>?_⟩
 have k6':Keep [] H9 (upd H9 t6 (.tup [odd,.str z1])):=Keep.new h6
 have q6:t6 ≠ p:=Ne.symm (ne_of_none p6 h6)
 have w6:Tg (upd H9 t6 (.tup [odd,.str z1])) p 2 (.ref t6):=Tg.tup upd_same q6 (by show 2 < 4;decide) (fun u hu=>Tg.keep (k6'.mono (by simp)) (all2 (to6) (Tg.of s1 1) u hu))
 have p7:=k6' _ _ (by simp) p6
 have to7:=Tg.keep (k6'.mono (by simp)) to6
 generalize upd H9 t6 (.tup [odd,.str z1])=H10 at k6' w6 p7 to7 ⊢
 refine ⟨_,rfl,_,rfl,by show 2 <= sizeLine;decide,fun t7 h7=>?_⟩
 have k7':Keep [] H10 (upd H10 t7 (.tup [.str z1,odd])):=Keep.new h7
 have q7:t7 ≠ p:=Ne.symm (ne_of_none p7 h7)
 have w7:Tg (upd H10 t7 (.tup [.str z1,odd])) p 2 (.ref t7):=Tg.tup upd_same q7 (by show 2 < 4;decide) (fun u hu=>Tg.keep (k7'.mono (by simp)) (all2 (Tg.of s1 1) (to7) u hu))
 have p8:=k7' _ _ (by simp) p7
 have to8:=Tg.keep (k7'.mono (by simp)) to7
 generalize upd H10 t7 (.tup [.str z1,odd])=H11 at k7' w7 p8 to8 ⊢
 refine ⟨by show 8 <= sizeLine;decide,fun l8 h8=>?_⟩
 have k8':Keep [] H11 (upd H11 l8 (.lst [.ref t0,.ref t1,.ref t2,.ref t3,.ref t4,.ref t5,.ref t6,.ref t7])):=Keep.new h8
 have p9:=k8' _ _ (by simp) p8
 have e8:upd H11 l8 (.lst [.ref t0,.ref t1,.ref t2,.ref t3,.ref t4,.ref t5,.ref t6,.ref t7]) l8=some (.lst [.ref t0,.ref t1,.ref t2,.ref t3,.ref t4,.ref t5,.ref t6,.ref t7]):=upd_same
 generalize upd H11 l8 (.lst [.ref t0,.ref t1,.ref t2,.ref t3,.ref t4,.ref t5,.ref t6,.ref t7])=H12 at k8' p9 e8 ⊢
 refine ⟨_,rfl,_,rfl,fun d9 h9=>?_⟩
 have k9':Keep [] H12 (upd H12 d9 (.dK [])):=Keep.new h9
 have q9:d9 ≠ p:=Ne.symm (ne_of_none p9 h9)
 have w9:Tg (upd H12 d9 (.dK [])) p 2 (.ref d9):=.inr (.inr ⟨d9,[],rfl,q9,upd_same,by decide,fun kv hk=>absurd hk List.not_mem_nil⟩)
 have p10:=k9' _ _ (by simp) p9
 generalize upd H12 d9 (.dK [])=H13 at k9' w9 p10 ⊢
 refine ⟨by show 0 <= sizeLine;decide,fun t10 h10=>?_⟩
 have k10':Keep [] H13 (upd H13 t10 (.tup [])):=Keep.new h10
 have q10:t10 ≠ p:=Ne.symm (ne_of_none p10 h10)
 have w10:Tg (upd H13 t10 (.tup [])) p 2 (.ref t10):=Tg.tup upd_same q10 (by decide) (fun u hu=>absurd hu List.not_mem_nil)
 have p11:=k10' _ _ (by simp) p10
 generalize upd H13 t10 (.tup [])=H14 at k10' w10 p11 ⊢
 refine ⟨by show 4 <= sizeLine;decide,fun l11 h11=>?_⟩
 have k11':Keep [] H14 (upd H14 l11 (.lst [.non,.str z1,.ref d9,.ref t10])):=Keep.new h11
 have p12:=k11' _ _ (by simp) p11
 have e8':=((k9'.trans k10').trans k11') _ _ (by simp) e8
 have e11:upd H14 l11 (.lst [.non,.str z1,.ref d9,.ref t10]) l11=some (.lst [.non,.str z1,.ref d9,.ref t10]):=upd_same
 generalize upd H14 l11 (.lst [.non,.str z1,.ref d9,.ref t10])=H15 at k11' p12 e8' e11 ⊢
 refine ⟨l8,l11,_,_,rfl,rfl,e8',e11,by show 12 <= sizeLine;decide,fun l12 h12=>?_⟩
 have k12':∀ o,Keep [] H15 (upd H15 l12 o):=fun o=>Keep.new h12
 have q12:l12 ≠ p:=Ne.symm (ne_of_none p12 h12)
 refine ⟨_,rfl,p,a3,b3,c3,12,rfl,k12' _ _ _ (by simp) p12,by decide,by decide,fun j a4 c4 j0 j1=>?_⟩
 obtain ⟨v,hv1,hv2⟩:=atI_in (xs:=[V.ref t0,.ref t1,.ref t2,.ref t3,.ref t4,.ref t5,.ref t6,.ref t7] ++ [V.non,.str z1,.ref d9,.ref t10]) j0 j1
 have kf:∀ o,Keep [p] H15 (upd (upd H15 l12 o) p (.lst [.int a4,.int b3,.int c4])):=fun o=>((k12' o).mono (by simp)).trans (Keep.at (by simp))
 have b10:=k11'
 have b9:=k10'.trans b10
 have b8:=k9'.trans b9
 have b7:=k8'.trans b8
 have c7:Keep [] H11 H15:=b7
 have c6:Keep [] H10 H15:=k7'.trans c7
 have c5:Keep [] H9 H15:=k6'.trans c6
 have c4:Keep [] H8 H15:=k5'.trans c5
 have c3:Keep [] H7 H15:=k4'.trans c4
 have c2:Keep [] H6 H15:=k3'.trans c3
 have c1:Keep [] H5 H15:=k2'.trans c2
 have c0:Keep [] H4 H15:=k1'.trans c1
 refine ⟨l12,_,j,v,rfl,rfl,by rw [upd_ne q12];exact upd_same,hv1,q v _ ?_ ⟨_,_,_,upd_same⟩ ((k3.trans ((k0'.trans c0).mono (by simp))).trans (kf _))⟩
 refine Tg.keep (kf _) ?_
 have hm:=List.mem_of_getElem? hv2
 simp only [List.cons_append,List.nil_append,List.mem_cons,List.not_mem_nil,or_false] at hm
 rcases hm with rfl | rfl | rfl | rfl | rfl | rfl | rfl | rfl | rfl | rfl | rfl | rfl
 ·exact Tg.keep (c0.mono (by simp)) w0
 ·exact Tg.keep (c1.mono (by simp)) w1
 ·exact Tg.keep (c2.mono (by simp)) w2
 ·exact Tg.keep (c3.mono (by simp)) w3
 ·exact Tg.keep (c4.mono (by simp)) w4
 ·exact Tg.keep (c5.mono (by simp)) w5
 ·exact Tg.keep (c6.mono (by simp)) w6
 ·exact Tg.keep (c7.mono (by simp)) w7
 ·exact Tg.of (v:=.non) trivial 2
 ·exact Tg.of s1 2
 ·exact Tg.keep (b9.mono (by simp)) w9
 ·exact Tg.keep (b10.mono (by simp)) w10
end
section
variable {P:Program} {w:World} {K:PySem.W.Frag} {mg:Str->Option Value} {base:Heap} {C:Addr}
theorem cut_in (us:List V) (lo hi:Option Int):(∀ u ∈ cutV us lo hi,u ∈ us)/\(cutV us lo hi).length <= us.length:=by
 unfold cutV
 refine ⟨fun u hu=>List.mem_of_mem_drop (List.mem_of_mem_take hu),?_⟩
 rw [List.length_take,List.length_drop]
 omega
theorem rows_tg {H:Hp} {p th:Addr} {a b c:Int} {qs:List Addr} {ps:List (Str × Str)} (hp:H p=some (.lst [.int a,.int b,.int c])) (pr:Paired (fun q r=>H q=some (.tup r)) qs (ps.map pairV)) (g:∀ q ∈ ps,GoodN q.1/\GoodN q.2):∀ u ∈ qs.map V.ref,Tg H p 1 u:=by
 intro u hu
 obtain ⟨t,ht,rfl⟩:=List.mem_map.mp hu
 obtain ⟨i,hi⟩:=List.getElem?_of_mem ht
 obtain ⟨r,er,hr⟩:=paired_get pr i t hi
 rw [List.getElem?_map] at er
 cases ep:ps[i]? with
 | none=>rw [ep] at er;cases er
 | some q=>
  rw [ep] at er
  have er':pairV q=r:=Option.some.inj er
  subst er'
  obtain ⟨g1,g2⟩:=g q (List.mem_of_getElem? ep)
  exact Tg.tup hr (fun e=>by rw [e,hp] at hr;cases hr) (by show 2 < 4;decide) (all2 (good_sc g1) (good_sc g2))
def Tp3 (H:Hp) (p:Addr) (n:Nat) (v:V):Prop:=Tg H p (n + 1) v \/ (∃ a us,v=.ref a/\a ≠ p/\(H a=some (.lst us) \/ H a=some (.tup us))/\us.length < 30/\∀ u ∈ us,Tg H p n u) \/ ∃ a kvs,v=.ref a/\a ≠ p/\H a=some (.dK kvs)/\kvs.length < 30/\∀ kv ∈ kvs,sc (kV kv.1)/\sc kv.2
theorem Tp3.dp {H:Hp} {p:Addr} {n:Nat} {v:V} (h:Tp3 H p n v):Dp K H (n + 1) v:=by
 rcases h with h | ⟨a,us,rfl,_,h,hl,g⟩ | ⟨a,kvs,rfl,_,h,hl,g⟩
 ·exact h.dp
 ·refine ⟨⟨h.elim (fun h=>⟨_,.lst h⟩) (fun h=>⟨_,.tup h⟩),nofun⟩,fun b eb vs hv=>?_⟩
  cases eb
  have ev:us=vs:=by
   rcases h with h | h <;> rcases hv with hv | hv <;> rw [h] at hv <;> (injection hv with hv) <;> first | (injection hv with hv) | cases hv
  subst ev
  exact ⟨by omega,fun u hu=>(g u hu).dp⟩
 ·refine ⟨⟨⟨_,.dK h⟩,nofun⟩,fun b eb vs hv=>?_⟩
  cases eb
  rcases hv with hv | hv <;> (rw [h] at hv;cases hv)
theorem Dp.down {H:Hp}:∀ {n:Nat} {v:V},Dp K H (n + 1) v->Dp K H n v
 | 0,_,h=>h.1
 | n + 1,_,h=>⟨h.1,fun a e us hu=>⟨(h.2 a e us hu).1,fun u hm=>Dp.down ((h.2 a e us hu).2 u hm)⟩⟩
theorem Tp3.show {H:Hp} {p:Addr} {n:Nat} {v:V} (hn:n <= 2) (h:Tp3 H p n v):Sh H v:=by
 rcases h with h | ⟨a,us,rfl,_,h,hl,g⟩ | ⟨a,kvs,rfl,_,h,hl,g⟩
 ·obtain ⟨d,r,x⟩:=Tg.sh (Tg.mono (Nat.succ_le_succ hn) h)
  exact ⟨3,Wt 3,d,r,x,by decide,by decide⟩
 ·have all:∃ ds,Paired (RdX H 2) us ds/\(∀ d ∈ ds,DX 2 (Wt 2) d)/\ds.length=us.length:=by
   clear h hl
   induction us with
   | nil=>exact ⟨[],.nil,fun d h=>absurd h List.not_mem_nil,rfl⟩
   | cons u us ih=>
    obtain ⟨ds,pr,q,l⟩:=ih fun u hu=>g u (List.mem_cons_of_mem _ hu)
    obtain ⟨d,r,x⟩:=Tg.sh (Tg.mono hn (g u List.mem_cons_self))
    refine ⟨d :: ds,.cons r pr,fun y hy=>?_,by rw [List.length_cons,List.length_cons,l]⟩
    rcases List.mem_cons.mp hy with rfl | hy
    ·exact x
    ·exact q y hy
  obtain ⟨ds,pr,q,l⟩:=all
  have w:ds.length * (Wt 2 + 1) <= 200000:=Nat.le_trans (Nat.mul_le_mul (show ds.length <= 30 by omega) (Nat.le_refl _)) (by decide)
  rcases h with h | h
  ·exact ⟨3,200000,.list ds,.inr (.inl ⟨a,us,ds,rfl,.inl ⟨h,rfl⟩,pr⟩),(DX.list q).mono (Nat.le_refl _) w,by decide,by decide⟩
  ·exact ⟨3,200000,.tuple ds,.inr (.inl ⟨a,us,ds,rfl,.inr ⟨h,rfl⟩,pr⟩),(DX.tuple q).mono (Nat.le_refl _) w,by decide,by decide⟩
 ·refine ⟨1,200000,_,.inr (.inr ⟨a,kvs,rfl,h,fun kv hk=>(sc_d (g kv hk).2).1,rfl⟩),(dx_dict (W:=40) fun q hq=>?_).mono (Nat.le_refl _) ?_,by decide,by decide⟩
  ·obtain ⟨kv,hk,rfl⟩:=List.mem_map.mp hq
   exact ⟨(sc_d (g kv hk).1).2,(sc_d (g kv hk).2).2⟩
  ·rw [List.length_map]
   exact Nat.le_trans (Nat.mul_le_mul (show kvs.length <= 30 by omega) (Nat.le_refl _)) (by decide)
theorem tg_put {H:Hp} {p l:Addr} {n:Nat} {us:List V} {x:V} {lo hi lo' hi':Option Int} (hl:H l=some (.lst (cutV us lo hi ++ [x] ++ cutV us lo' hi'))) (lp:l ≠ p) (ln:us.length <= 14) (g:∀ u ∈ us,Tg H p n u) (gx:Tg H p n x):Tp3 H p n (.ref l):=by
 refine .inr (.inl ⟨l,_,rfl,lp,.inl hl,?_,fun u hu=>?_⟩)
 ·rw [List.length_append,List.length_append]
  have h1:=(cut_in us lo hi).2
  have h2:=(cut_in us lo' hi').2
  show _ + 1 + _ < 30
  omega
 ·rcases List.mem_append.mp hu with h | h
  ·rcases List.mem_append.mp h with h | h
   ·exact g u ((cut_in us lo hi).1 u h)
   ·rw [List.mem_singleton.mp h];exact gx
  ·exact g u ((cut_in us lo' hi').1 u h)
end
end K03
namespace L2
open PySem PySem.Spec PyProof.Rows
section
variable {prog:Program} {w:World} {A:Around} {E:Value->Shared->Prop} {s:Shared}
theorem pair_back {t sl:Addr} {x y vs:Value} {Q:Value->Shared->Prop} (ht:IsTup s.heap t #[x,y]) (hs:s.heap.IsSliceOf sl .none .none vs) (ps:IsPart vs (some (-1)))
  (h:Q (.ref s.heap.objs.size) { s with heap:=s.heap.push { cls:=.type "tuple",data:=.seq #[y,x] } }):wpAny (model prog w) A (getItem (.ref t) (.ref sl)) Q E s:=by
 have htake:sizeOk (.seq (#[y,x]:Array Value)):=by show 2 <= sizeLine;decide
 obtain ⟨os,hos,hcs,hds⟩:=id hs
 have hTs:s.TypeIs (.ref sl) "slice":=⟨os,hos,hcs⟩
 unfold getItem
 try with_reducible refine wpAny_holding ?_
 first | refine wpAny_bind (wpAny_pure ?_) | skip
 refine wpAny_bind (wpAny_sequenceKey ht.typeIs (by decide) ?_)
 refine wpAny_bind (wpAny_callSpecial?_slot (name:=Str.ofString "__getitem__") ht.typeIs PyProof.Rows.slot_tuple_getitem
  (wpAny_call_entry PyProof.Rows.slot_tuple_getitem ht.typeIs entry_tuple_getitem ?_ (args_tuple_getitem _ _)))
 show wpAny _ _ (Builtin.Tuple.tupleItemsOf (.ref t) >>= _) _ _ s
 refine wpAny_bind (tupleItemsOf_ ht ?_)
 refine wpAny_bind (wpAny_typeOf hTs ?_)
 rw [if_pos (by decide)]
 have key:∀ (A:Around) (E:Value->Shared->Prop),wpAny (model prog w) A (Builtin.Slice.sliceApplied (.ref sl) (pure ((2:Nat):Int))) (fun r s'=>r=((1:Int),(-1:Int),(2:Nat))/\s'=s) E s:=by
  intro A E
  unfold Builtin.Slice.sliceApplied Builtin.Slice.sliceFields
  refine wpAny_bind (wpAny_bind (wpAny_field hos hds (x:=.none) rfl (wpAny_bind (wpAny_field hos hds (x:=.none) rfl (wpAny_bind (wpAny_field hos hds (x:=vs) rfl (wpAny_pure ?_)))))))
  refine wpAny_bind (HT.slicePart_ ps ?_)
  show wpAny _ _ (if ((-1:Int) == 0)=true then _ else _) _ _ s
  rw [if_neg (by decide)]
  refine wpAny_bind (slicePart_none (wpAny_bind (slicePart_none (wpAny_bind (wpAny_pure ?_)))))
  exact wpAny_pure ⟨rfl,rfl⟩
 refine wpAny_bind (wpAny_mono (key _ _) (fun r s' q=>?_) fun _ _ z=>z)
 obtain ⟨e1,e2⟩:=q
 subst e1 e2
 show wpAny _ _ (if ((1:Int) == 0 && (-1:Int) == 1 && (2:Nat) == 2)=true then _ else _) _ _ _
 rw [if_neg (by decide)]
 have pk:((List.range 2).filterMap fun (k:Nat)=>(#[x,y]:Array Value)[((1:Int) + (k:Int) * (-1)).toNat]?).toArray = #[y,x]:=rfl
 rw [pk]
 first
  | exact wpAny_bind (m:=Builtin.Tuple.tupleExact _) (wpAny_newObj_type (wpAny_pure ⟨_,rfl,wpAny_pure h⟩) htake)
  | exact wpAny_bind (m:=Builtin.Tuple.tupleExact _) (wpAny_newObj_type (wpAny_bind (wpAny_pure (wpAny_pure ⟨_,rfl,wpAny_pure h⟩))) htake)
end
section
variable {X:Cx} {e:Expr} {te:TE} {pos p1 p2 p3:Pos} {j1:Nat}
def tBackT (te:TE):TE:=fun σ H Q=>te σ H fun x H1=>∃ a u v,x=.ref a/\H1 a=some (.tup [u,v])/\∀ p,H1 p=none->Q (.ref p) (upd H1 p (.tup [v,u]))
theorem pe_backT (he:PE X e te):PE X (.Subscript e (.Slice none none (some (.UnaryOp .USub (.Constant (.int 1) j1 p1) p3)) p2) pos) (tBackT te):=by
 intro pins s σ H Q I h
 refine Subscript_ (thn (he pins s σ H _ I h) fun v s1 hz69=>?_)
 obtain ⟨x,H1,I1,r1,q1⟩:=hz69
 refine wpAny_Slice ?_
 rw [evalPart_none]
 refine wpAny_pure (wpAny_pure ?_)
 refine thn ((po_some (pe_m1 (X:=X) (j1:=j1) (p1:=p1) (p3:=p3))) pins s1 σ H1 (fun o H2=>o=some (-1)/\H2=H1) I1 ⟨-1,rfl,rfl,rfl⟩) fun vs s3 hz70=>?_
 obtain ⟨o,H3,I3,ps,e1,e2⟩:=hz70
 subst e1 e2
 obtain ⟨a,u,v,rfl,hx,q⟩:=q1
 cases r1
 have I4:Inv X pins σ H3 { s3 with heap:=s3.heap.push { cls:=.type "slice",data:=.fields #[.none,.none,vs] } }:=I3.kept (t':=s3.toks) fun b ob q=>Heap.get?_push_of_some _ q
 obtain ⟨its,r,ht,hz⟩:=I4.tuple (.of hx)
 cases r with
 | cons r1 t=>
 cases t with
 | cons r2 t=>
 cases t
 show wpAny (model X.prog X.w) X.A (subscriptTail e (.Slice none none (some (.UnaryOp .USub (.Constant (.int 1) j1 p1) p3)) p2) (.ref a) (.ref s3.heap.objs.size)) (EP X pins σ Q) X.xe { s3 with heap:=s3.heap.push { cls:=.type "slice",data:=.fields #[.none,.none,vs] } }
 refine tail_any (ops:=[.ref a,.ref s3.heap.objs.size]) ht.typeIs slot_tuple_getitem.lookup ?_ (by with_unfolding_all rfl)
 refine pair_back ht (Heap.IsSliceOf.new ..) ps ?_
 refine ⟨.ref _,_,I4.laid (t':=s3.toks) (o:=.tup [v,u]) (fun b ob q=>Heap.get?_push_of_some _ q) (Nat.le_refl _) ?_,rfl,q _ (I4.hok.fresh (Nat.le_refl _))⟩
 exact ⟨by show 2 <= sizeLine;decide,_,.cons r2 (.cons r1 .nil),IsTup.new _ _⟩
end
end L2
namespace K03
open PySem L2
abbrev sTO:Stmt:=top 42
section
variable {P:Program} {w:World} {K:PySem.W.Frag} {mg:Str->Option Value} {base:Heap} {C:Addr}
theorem scTO:FnScope ["_law_source","_law_names_here","_law_ties","_law_way","_law_at","_law_one","_law_other","_law_twice"] ["_law_source","_law_names_here","_law_ties"] (defScope sTO):=⟨rfl,rfl,rfl,by decide +kernel,rfl,by decide +kernel,by decide +kernel⟩
theorem sc_ties:sc (.str "ties"):=by
 refine ⟨by decide +kernel,?_⟩
 show ∀ c ∈ ("ties" : Str).cps.toList,c < 1000
 decide +kernel
def spTO:Sp:=fun vs H Q _=>∃ (p la th:Addr) (zs:List Str) (qs:List Addr) (ps:List (Str × Str)),vs=[.ref p,.ref la,.ref th]/\Src H p/\H la=some (.lst (zs.map V.str))/\(∀ z ∈ zs,GoodN z)/\zs ≠ []/\zs.length < 60/\H th=some (.lst (qs.map V.ref))/\th ≠ p/\Paired (fun q r=>H q=some (.tup r)) qs (ps.map pairV)/\(∀ q ∈ ps,GoodN q.1/\GoodN q.2)/\ps.length <= 14/\∀ (v:V) (H':Hp),Tp3 H' p 2 v->Src H' p->Keep [p] H H'->Q v H'
theorem okTO (G:FunG K mg "_law_ties_otherwise" sTO ["_law_source","_law_names_here","_law_ties"]) (CN:Cal P w K mg base CX0 2 "_law_next" ["_law_source","_law_many"] spNext) (COT:Cal P w K mg base CX0 4 "_law_odd_tie" ["_law_source","_law_names_here"] spOT) (b_len:Blt mg "len") (b_tuple:Blt mg "tuple"):Cal P w K mg base CX0 5 "_law_ties_otherwise" ["_law_source","_law_names_here","_law_ties"] spTO:=by
 refine G.ok scTO (fun vs H Q E h=>by obtain ⟨p,la,th,zs,qs,ps,rfl,_⟩:=h;rfl) (fun f cdv A outer s0 H vs Q E hr h=>?_)
 obtain ⟨p,la,th,zs,qs,ps,rfl,⟨a,b,c,hp⟩,hla,gz,ne,lz,hth,thp,pr,gp,lp,q⟩:=h
 have hr4:Room 4 _:=hr
 have hr2:Room 2 _:=hr.mono (by decide)
 have hu:=hu_of hr
 refine ⟨_,(pss_cons (ps_set (i:=3) scTO.nd rfl (Or.inl rfl) (pe_cal CN hr2 (pa_cons (pv 0) (pa_cons pe_int pa_nil))))
   (pss_cons (ps_set (i:=4) scTO.nd rfl (Or.inl rfl) (pe_cal CN hr2 (pa_cons (pv 0) (pa_cons (pe_op op_add (pe_blt call_len b_len bo_len (pa_cons (pv 2) pa_nil)) pe_int) pa_nil))))
   (pss_cons (ps_set (i:=5) scTO.nd rfl (Or.inl rfl) (pe_ix ix_lstH (pv 1) (pe_cal CN hr2 (pa_cons (pv 0) (pa_cons (pe_blt call_len b_len bo_len (pa_cons (pv 1) pa_nil)) pa_nil))) (fun _ _=>rfl)))
   (pss_cons (ps_set (i:=6) scTO.nd rfl (Or.inl rfl) (pe_ix ix_lstH (pv 1) (pe_cal CN hr2 (pa_cons (pv 0) (pa_cons (pe_blt call_len b_len bo_len (pa_cons (pv 1) pa_nil)) pa_nil))) (fun _ _=>rfl)))
   (pss_cons (ps_if (pt_cmpR op_eq (pv 3) pe_int (nomark _)) (pss_one (ps_ret (pe_ix ix_lstH (pe_lst (pa_cons pe_non (pa_cons (pe_callTy call_tuple_of rfl b_tuple.no bo_tuple (pa_cons (pv 2) pa_nil)) (pa_cons pe_str (pa_cons pe_dnewK (pa_cons pe_int pa_nil)))))) (pe_cal CN hr2 (pa_cons (pv 0) (pa_cons pe_int pa_nil))) (fun _ _=>rfl)))) pss_nil)
   (pss_cons (ps_if (pt_cmpR op_eq (pv 3) pe_int (nomark _)) (pss_one (ps_ret (pe_op op_cat (pe_slice sl_list (pv 2) po_none (po_some (pv 4))) (pe_slice sl_list (pv 2) (po_some (pe_op op_add (pv 4) pe_int)) po_none)))) pss_nil)
   (pss_cons (ps_if (PW.pt (pw_and (pt_cmpR op_eq (pv 3) pe_int (nomark _)) (pw_and1 (pt_cmpR (op_neE (Nat.lt_of_succ_lt hu)) (pv 2) (pe_lst pa_nil) (nomark _))))) (pss_cons (ps_set (i:=7) scTO.nd rfl (Or.inl rfl) (pe_ix ix_lstH (pv 2) (pe_cal CN hr2 (pa_cons (pv 0) (pa_cons (pe_blt call_len b_len bo_len (pa_cons (pv 2) pa_nil)) pa_nil))) (fun _ _=>rfl)))
   (pss_one (ps_ret (pe_op op_cat (pe_op op_cat (pe_slice sl_list (pv 2) po_none (po_some (pv 4))) (pe_lst (pa_cons (pe_ix ix_lstH (pe_lst (pa_cons (pv 7) (pa_cons (pe_backT (pv 7)) pa_nil))) (pe_cal CN hr2 (pa_cons (pv 0) (pa_cons pe_int pa_nil))) (fun _ _=>rfl)) pa_nil))) (pe_slice sl_list (pv 2) (po_some (pe_op op_add (pv 4) (pe_cal CN hr2 (pa_cons (pv 0) (pa_cons pe_int pa_nil))))) po_none))))) pss_nil)
   (pss_cons (ps_if (pt_cmpR op_eq (pv 3) pe_int (nomark _)) (pss_one (ps_ret (pe_op op_cat (pe_op op_cat (pe_slice sl_list (pv 2) po_none (po_some (pv 4))) (pe_lst (pa_cons (pe_tup (pa_cons (pv 5) (pa_cons (pv 6) pa_nil))) pa_nil))) (pe_slice sl_list (pv 2) (po_some (pe_op op_add (pv 4) pe_int)) po_none)))) pss_nil)
   (pss_cons (ps_if (pt_cmpR op_eq (pv 3) pe_int (nomark _)) (pss_one (ps_ret (pe_op op_cat (pe_op op_cat (pe_slice sl_list (pv 2) po_none (po_some (pv 4))) (pe_lst (pa_cons (pe_tup (pa_cons (pv 5) (pa_cons (pv 6) pa_nil))) pa_nil))) (pe_slice sl_list (pv 2) (po_some (pv 4)) po_none)))) pss_nil)
   (pss_one (ps_ret (pe_op op_cat (pe_op op_cat (pe_slice sl_list (pv 2) po_none (po_some (pv 4))) (pe_lst (pa_cons (pe_cal COT hr4 (pa_cons (pv 0) (pa_cons (pv 1) pa_nil))) pa_nil))) (pe_slice sl_list (pv 2) (po_some (pe_op op_add (pv 4) (pe_cal CN hr2 (pa_cons (pv 0) (pa_cons pe_int pa_nil))))) po_none))))))))))))),?_⟩
 have lap:la ≠ p:=src_ne hp hla ne
 have lpos:0 < zs.length:=List.length_pos_iff.mpr ne
 have lq:=paired_len pr
 rw [List.length_map] at lq
 have at1:∀ {x y z:Int},upd H p (.lst [.int x,.int y,.int z]) th=some (.lst (qs.map V.ref)):=by intro x y z;rw [upd_ne thp];exact hth
 have at2:∀ {x y z:Int},upd H p (.lst [.int x,.int y,.int z]) la=some (.lst (zs.map V.str)):=by intro x y z;rw [upd_ne lap];exact hla
 refine ⟨_,rfl,p,a,b,c,6,rfl,hp,by decide,by decide,fun way a1 c1 w0 w1=>?_⟩
 refine ⟨_,rfl,_,rfl,_,_,rfl,.inl ⟨_,.of at1,rfl⟩,_,_,rfl,rfl,p,a1,b,c1,_,rfl,upd_same,by rw [List.length_map];omega,by rw [List.length_map];omega,fun k a2 c2 k0 k1=>?_⟩
 rw [upd_upd]
 refine ⟨_,rfl,_,rfl,_,rfl,_,_,rfl,.inl ⟨_,.of at2,rfl⟩,p,a2,b,c2,_,rfl,upd_same,by rw [List.length_map];omega,by rw [List.length_map];omega,fun i a3 c3 i0 i1=>?_⟩
 rw [upd_upd]
 obtain ⟨u,hu1,hu2⟩:=atI_in (xs:=zs.map V.str) i0 i1
 obtain ⟨z1,hz1,rfl⟩:∃ z ∈ zs,V.str z=u:=List.mem_map.mp (List.mem_of_getElem? hu2)
 refine ⟨la,_,i,_,rfl,rfl,at2,hu1,?_⟩
 refine ⟨_,rfl,_,rfl,_,rfl,_,_,rfl,.inl ⟨_,.of at2,rfl⟩,p,a3,b,c3,_,rfl,upd_same,by rw [List.length_map];omega,by rw [List.length_map];omega,fun j a4 c4 j0 j1=>?_⟩
 rw [upd_upd]
 obtain ⟨u,hw1,hw2⟩:=atI_in (xs:=zs.map V.str) j0 j1
 obtain ⟨z2,hz2,rfl⟩:∃ z ∈ zs,V.str z=u:=List.mem_map.mp (List.mem_of_getElem? hw2)
 refine ⟨la,_,j,_,rfl,rfl,at2,hw1,?_⟩
 have hth4:upd H p (.lst [.int a4,.int b,.int c4]) th=some (.lst (qs.map V.ref)):=at1
 have hla4:upd H p (.lst [.int a4,.int b,.int c4]) la=some (.lst (zs.map V.str)):=at2
 have hp4:upd H p (.lst [.int a4,.int b,.int c4]) p=some (.lst [.int a4,.int b,.int c4]):=upd_same
 have k4:Keep [p] H (upd H p (.lst [.int a4,.int b,.int c4])):=Keep.at (by simp)
 have pr4:=paired_far k4 (fun x hx xs e=>by rw [List.mem_singleton.mp hx,hp] at e;cases e) pr
 generalize upd H p (.lst [.int a4,.int b,.int c4])=H4 at hth4 hla4 hp4 k4 pr4 ⊢
 have tg4:=rows_tg (th:=th) hp4 pr4 gp
 have s1:=good_sc (gz z1 hz1)
 have s2:=good_sc (gz z2 hz2)
 have lus:(qs.map V.ref).length <= 14:=by rw [List.length_map];omega
 have prs:∀ u ∈ qs.map V.ref,∃ (t:Addr) (x y:Str),u=.ref t/\H4 t=some (.tup [.str x,.str y])/\GoodN x/\GoodN y:=by
  intro u hu
  obtain ⟨t,ht,rfl⟩:=List.mem_map.mp hu
  obtain ⟨i,hi⟩:=List.getElem?_of_mem ht
  obtain ⟨r,er,hr⟩:=paired_get pr4 i t hi
  rw [List.getElem?_map] at er
  cases ep:ps[i]? with
  | none=>rw [ep] at er;cases er
  | some q=>
   rw [ep] at er
   have er':pairV q=r:=Option.some.inj er
   subst er'
   exact ⟨t,q.1,q.2,rfl,hr,gp q (List.mem_of_getElem? ep)⟩
 clear at1 at2
 generalize qs.map V.ref=us at hth4 tg4 lus prs
 refine ⟨_,rfl,rfl,_,rfl,ite2 (fun e=>?_) (fun e=>?_)⟩
 ·refine ⟨_,rfl,th,_,rfl,.inl ⟨.of hth4,fun t0 h0=>fun d0 h1=>⟨by show 5 <= sizeLine;decide,fun l5 h5=>?_⟩⟩⟩
  have ka:Keep [] H4 (upd H4 t0 (.tup us)):=Keep.new h0
  have kb:Keep [] (upd H4 t0 (.tup us)) (upd (upd H4 t0 (.tup us)) d0 (.dK [])):=Keep.new h1
  have t0p:t0 ≠ p:=Ne.symm (ne_of_none hp4 h0)
  have d0p:d0 ≠ p:=Ne.symm (ne_of_none (ka _ _ (by simp) hp4) h1)
  have w0':upd (upd H4 t0 (.tup us)) d0 (.dK []) t0=some (.tup us):=kb _ _ (by simp) upd_same
  have g0':∀ u ∈ us,Tg (upd (upd H4 t0 (.tup us)) d0 (.dK [])) p 2 u:=fun u hu=>Tg.mono (by decide) (Tg.keep ((ka.trans kb).mono (by simp)) (tg4 u hu))
  have w1':Tg (upd (upd H4 t0 (.tup us)) d0 (.dK [])) p 2 (.ref d0):=.inr (.inr ⟨d0,[],rfl,d0p,upd_same,by decide,fun kv hk=>absurd hk List.not_mem_nil⟩)
  have kab:=ka.trans kb
  have hp5:=kab _ _ (by simp) hp4
  generalize upd (upd H4 t0 (.tup us)) d0 (.dK [])=H5 at h5 w0' g0' w1' kab hp5 ⊢
  have l5p:l5 ≠ p:=Ne.symm (ne_of_none hp5 h5)
  have k6:∀ o,Keep [] H5 (upd H5 l5 o):=fun o=>Keep.new h5
  refine ⟨_,rfl,p,a4,b,c4,5,rfl,k6 _ _ _ (by simp) hp5,by decide,by decide,fun m a5 c5 m0 m1=>?_⟩
  obtain ⟨v,hv1,hv2⟩:=atI_in (xs:=[V.non,.ref t0,.str "ties",.ref d0,.int 0]) m0 m1
  have kf:∀ o,Keep [p] H5 (upd (upd H5 l5 o) p (.lst [.int a5,.int b,.int c5])):=fun o=>((k6 o).mono (by simp)).trans (Keep.at (by simp))
  refine ⟨l5,_,m,v,rfl,rfl,by rw [upd_ne l5p];exact upd_same,hv1,q v _ ?_ ⟨_,_,_,upd_same⟩ ((k4.trans (kab.mono (by simp))).trans (kf _))⟩
  have hm:=List.mem_of_getElem? hv2
  simp only [List.mem_cons,List.not_mem_nil,or_false] at hm
  rcases hm with rfl | rfl | rfl | rfl | rfl
  ·exact .inl (Tg.of (v:=.non) trivial 3)
  ·exact .inr (.inl ⟨t0,us,rfl,t0p,.inr (kf _ _ _ (by simp [t0p]) w0'),by omega,fun u hu=>Tg.keep (kf _) (g0' u hu)⟩)
  ·exact .inl (Tg.of (v:=.str "ties") sc_ties 3)
  ·exact .inl (Tg.mono (by decide) (Tg.keep (kf _) w1'))
  ·exact .inl (Tg.of (v:=.int 0) ⟨by decide,by decide⟩ 3)
 refine ⟨_,rfl,rfl,_,rfl,ite2 (fun e=>?_) (fun e=>?_)⟩
 ·refine ⟨_,rfl,_,rfl,_,rfl,th,_,rfl,.of hth4,fun l1 h1=>?_⟩
  have ka:Keep [] H4 (upd H4 l1 (.lst (cutV us none (some k)))):=Keep.new h1
  have e1:upd H4 l1 (.lst (cutV us none (some k))) l1=some (.lst (cutV us none (some k))):=upd_same
  generalize upd H4 l1 (.lst (cutV us none (some k)))=H5 at ka e1 ⊢
  refine ⟨_,rfl,_,rfl,_,_,rfl,rfl,_,rfl,th,_,rfl,.of (ka _ _ (by simp) hth4),fun l2 h2=>?_⟩
  have kb:∀ o,Keep [] H5 (upd H5 l2 o):=fun o=>Keep.new h2
  refine ⟨l1,l2,_,_,rfl,rfl,kb _ _ _ (by simp) e1,upd_same,?_,fun l3 h3=>?_⟩
  ·have h1:=(cut_in us none (some k)).2
   have h2:=(cut_in us (some (k + 1)) none).2
   rw [sizeLine_eq];omega
  have kc:Keep [] H4 (upd H5 l2 (.lst (cutV us (some (k + 1)) none))):=ka.trans (kb _)
  have hp6:=kc _ _ (by simp) hp4
  generalize upd H5 l2 (.lst (cutV us (some (k + 1)) none))=H6 at h3 kc hp6 ⊢
  have l3p:l3 ≠ p:=Ne.symm (ne_of_none hp6 h3)
  have kd:∀ o,Keep [] H6 (upd H6 l3 o):=fun o=>Keep.new h3
  refine q (.ref l3) _ (.inr (.inl ⟨l3,_,rfl,l3p,.inl upd_same,?_,fun u hu=>?_⟩)) ⟨_,_,_,kd _ _ _ (by simp) hp6⟩ (k4.trans ((kc.trans (kd _)).mono (by simp)))
  ·have h1:=(cut_in us none (some k)).2
   have h2:=(cut_in us (some (k + 1)) none).2
   rw [List.length_append];omega
  ·refine Tg.mono (by decide) (Tg.keep ((kc.trans (kd _)).mono (by simp)) (tg4 u ?_))
   rcases List.mem_append.mp hu with h | h
   ·exact (cut_in us _ _).1 u h
   ·exact (cut_in us _ _).1 u h
 refine ⟨_,rfl,rfl,_,rfl,ite2 (fun e2=>?_) (fun e2=>?_)⟩
 ·have ew:way=2:=by have:=of_decide_eq_true e2;injection this
  refine ⟨_,rfl,by show 0 <= sizeLine;decide,fun e0 he0=>?_⟩
  have k5:Keep [] H4 (upd H4 e0 (.lst [])):=Keep.new he0
  have hth5:=k5 _ _ (by simp) hth4
  have hla5:=k5 _ _ (by simp) hla4
  have hp5:=k5 _ _ (by simp) hp4
  have tg5:∀ u ∈ us,Tg (upd H4 e0 (.lst [])) p 1 u:=fun u hu=>Tg.keep (k5.mono (by simp)) (tg4 u hu)
  have kH5:=k4.trans (k5.mono (by simp))
  refine ⟨th,e0,us,rfl,rfl,hth5,upd_same,ne_of_none hth4 he0,_,rfl,?_⟩
  generalize upd H4 e0 (.lst [])=H5 at k5 hth5 hla5 hp5 tg5 kH5 ⊢
  refine ite2 (fun e5=>?_) (fun e5=>?_)
  ·have lu:0 < us.length:=by
    cases us with
    | nil=>cases e5
    | cons _ _=>simp
   refine ⟨_,rfl,_,rfl,_,rfl,_,_,rfl,.inl ⟨_,.of hth5,rfl⟩,p,a4,b,c4,_,rfl,hp5,by omega,by omega,fun m a5 c5 m0 m1=>?_⟩
   obtain ⟨u,hv1,hv2⟩:=atI_in (xs:=us) m0 m1
   obtain ⟨t,x,y,rfl,ht,gx,gy⟩:=prs u (List.mem_of_getElem? hv2)
   have tp:t ≠ p:=fun e=>by rw [e,hp4] at ht;cases ht
   refine ⟨th,_,m,_,rfl,rfl,by rw [upd_ne thp];exact hth5,hv1,?_⟩
   have k6:Keep [p] H5 (upd H5 p (.lst [.int a5,.int b,.int c5])):=Keep.at (by simp)
   have hp6:upd H5 p (.lst [.int a5,.int b,.int c5]) p=some (.lst [.int a5,.int b,.int c5]):=upd_same
   generalize upd H5 p (.lst [.int a5,.int b,.int c5])=H6 at k6 hp6 ⊢
   have hth6:=k6 _ _ (by simp [thp]) hth5
   have ht6:=k6 _ _ (by simp [tp]) (k5 _ _ (by simp) ht)
   refine ⟨_,rfl,_,rfl,_,rfl,th,_,rfl,.of hth6,fun l1 h1=>?_⟩
   have ka:Keep [] H6 (upd H6 l1 (.lst (cutV us none (some k)))):=Keep.new h1
   have e1:upd H6 l1 (.lst (cutV us none (some k))) l1=some (.lst (cutV us none (some k))):=upd_same
   have l1p:l1 ≠ p:=Ne.symm (ne_of_none hp6 h1)
   generalize upd H6 l1 (.lst (cutV us none (some k)))=HA at ka e1 ⊢
   refine ⟨_,rfl,_,rfl,t,.str x,.str y,rfl,ka _ _ (by simp) ht6,fun tb htb=>?_⟩
   have kt:Keep [] HA (upd HA tb (.tup [.str y,.str x])):=Keep.new htb
   have etb:upd HA tb (.tup [.str y,.str x]) tb=some (.tup [.str y,.str x]):=upd_same
   have hpA:=ka _ _ (by simp) hp6
   have tbp:tb ≠ p:=Ne.symm (ne_of_none hpA htb)
   generalize upd HA tb (.tup [.str y,.str x])=HT at kt etb ⊢
   refine ⟨by show 2 <= sizeLine;decide,fun l2 h2=>?_⟩
   have kl:Keep [] HT (upd HT l2 (.lst [.ref t,.ref tb])):=Keep.new h2
   have el:upd HT l2 (.lst [.ref t,.ref tb]) l2=some (.lst [.ref t,.ref tb]):=upd_same
   have l2p:l2 ≠ p:=Ne.symm (ne_of_none (kt _ _ (by simp) hpA) h2)
   generalize upd HT l2 (.lst [.ref t,.ref tb])=HL at kl el ⊢
   have kAL:=kt.trans kl
   refine ⟨_,rfl,p,a5,b,c5,2,rfl,kAL _ _ (by simp) hpA,by decide,by decide,fun m2 a6 c6 n0 n1=>?_⟩
   obtain ⟨odd,hw1,hw2⟩:=atI_in (xs:=[V.ref t,.ref tb]) n0 n1
   have kB:Keep [p] HA (upd HL p (.lst [.int a6,.int b,.int c6])):=(kAL.mono (by simp)).trans (Keep.at (by simp))
   have hpB:upd HL p (.lst [.int a6,.int b,.int c6]) p=some (.lst [.int a6,.int b,.int c6]):=upd_same
   have elB:upd HL p (.lst [.int a6,.int b,.int c6]) l2=some (.lst [.ref t,.ref tb]):=by rw [upd_ne l2p];exact el
   have etB:upd HL p (.lst [.int a6,.int b,.int c6]) tb=some (.tup [.str y,.str x]):=by rw [upd_ne tbp];exact kl _ _ (by simp) etb
   generalize upd HL p (.lst [.int a6,.int b,.int c6])=HB at kB hpB elB etB ⊢
   have htB:=kB _ _ (by simp [tp]) (ka _ _ (by simp) ht6)
   have to:Tg HB p 2 odd:=by
    have hm:=List.mem_of_getElem? hw2
    simp only [List.mem_cons,List.not_mem_nil,or_false] at hm
    rcases hm with rfl | rfl
    ·exact Tg.tup htB tp (by show 2 < 4;decide) (all2 (Tg.of (good_sc gx) 1) (Tg.of (good_sc gy) 1))
    ·exact Tg.tup etB tbp (by show 2 < 4;decide) (all2 (Tg.of (good_sc gy) 1) (Tg.of (good_sc gx) 1))
   refine ⟨l2,_,m2,odd,rfl,rfl,elB,hw1,⟨by show 1 <= sizeLine;decide,fun lx hx=>?_⟩⟩
   have kXB:Keep [p] H5 HB:=(k6.trans (ka.mono (by simp))).trans kB
   have e1B:=kB _ _ (by simp [l1p]) e1
   have hthB:=kXB _ _ (by simp [thp]) hth5
   have kx:Keep [] HB (upd HB lx (.lst [odd])):=Keep.new hx
   have ex:upd HB lx (.lst [odd]) lx=some (.lst [odd]):=upd_same
   generalize upd HB lx (.lst [odd])=HC at kx ex ⊢
   refine ⟨l1,lx,_,_,rfl,rfl,kx _ _ (by simp) e1B,ex,by have h:=(cut_in us none (some k)).2;rw [sizeLine_eq];show _ + 1 <= _;omega,fun lc hc=>?_⟩
   have kc:Keep [] HC (upd HC lc (.lst (cutV us none (some k) ++ [odd]))):=Keep.new hc
   have ec:upd HC lc (.lst (cutV us none (some k) ++ [odd])) lc=some (.lst (cutV us none (some k) ++ [odd])):=upd_same
   have hpC:=kx _ _ (by simp) hpB
   have lcp:lc ≠ p:=Ne.symm (ne_of_none hpC hc)
   have kBC:=kx.trans kc
   generalize upd HC lc (.lst (cutV us none (some k) ++ [odd]))=HD at kc ec kBC ⊢
   refine ⟨_,rfl,_,rfl,_,rfl,p,a6,b,c6,2,rfl,kBC _ _ (by simp) hpB,by decide,by decide,fun m3 a7 c7 y0 y1=>?_⟩
   have kp7:Keep [p] HD (upd HD p (.lst [.int a7,.int b,.int c7])):=Keep.at (by simp)
   have hp7:upd HD p (.lst [.int a7,.int b,.int c7]) p=some (.lst [.int a7,.int b,.int c7]):=upd_same
   generalize upd HD p (.lst [.int a7,.int b,.int c7])=HE at kp7 hp7 ⊢
   have kXE:Keep [p] H5 HE:=(kXB.trans (kBC.mono (by simp))).trans kp7
   refine ⟨_,_,rfl,rfl,_,rfl,th,_,rfl,.of (kXE _ _ (by simp [thp]) hth5),fun l2 h2=>?_⟩
   have k2:Keep [] HE (upd HE l2 (.lst (cutV us (some (k + m3)) none))):=Keep.new h2
   have e2:upd HE l2 (.lst (cutV us (some (k + m3)) none)) l2=some (.lst (cutV us (some (k + m3)) none)):=upd_same
   generalize upd HE l2 (.lst (cutV us (some (k + m3)) none))=HF at k2 e2 ⊢
   refine ⟨lc,l2,_,_,rfl,rfl,k2 _ _ (by simp) (kp7 _ _ (by simp [lcp]) ec),e2,by have h:=(cut_in us none (some k)).2;have h':=(cut_in us (some (k + m3)) none).2;rw [List.length_append,sizeLine_eq];show _ + 1 + _ <= _;omega,fun lr hlr=>?_⟩
   have hpF:=k2 _ _ (by simp) hp7
   have lrp:lr ≠ p:=Ne.symm (ne_of_none hpF hlr)
   have kr:∀ o,Keep [] HF (upd HF lr o):=fun o=>Keep.new hlr
   have kEF:∀ o,Keep [p] HE (upd HF lr o):=fun o=>(k2.trans (kr o)).mono (by simp)
   exact q (.ref lr) _ (tg_put (n:=2) upd_same lrp lus (fun u hu=>Tg.mono (by decide) (Tg.keep (kXE.trans (kEF _)) (tg5 u hu))) (Tg.keep ((((kBC.mono (by simp)).trans kp7).trans (kEF _))) to)) ⟨_,_,_,kr _ _ _ (by simp) hpF⟩ (kH5.trans (kXE.trans (kEF _)))
  refine ⟨_,rfl,rfl,_,rfl,ifF (by rw [ew];decide) ?_⟩
  refine ⟨_,rfl,rfl,_,rfl,ifF (by rw [ew];decide) ?_⟩
  refine ⟨_,rfl,_,rfl,_,rfl,th,_,rfl,.of hth5,fun l1 h1=>?_⟩
  have ka:Keep [] H5 (upd H5 l1 (.lst (cutV us none (some k)))):=Keep.new h1
  have e1:upd H5 l1 (.lst (cutV us none (some k))) l1=some (.lst (cutV us none (some k))):=upd_same
  have l1p:l1 ≠ p:=Ne.symm (ne_of_none hp5 h1)
  generalize upd H5 l1 (.lst (cutV us none (some k)))=HA at ka e1 ⊢
  refine ⟨_,rfl,_,rfl,p,la,zs,rfl,⟨_,_,_,ka _ _ (by simp) hp5⟩,ka _ _ (by simp) hla5,gz,ne,lz,fun odd HB to ⟨a6,b6,c6,hpB⟩ kB=>⟨by show 1 <= sizeLine;decide,fun lx hx=>?_⟩⟩
  have kXB:Keep [p] H5 HB:=(ka.mono (by simp)).trans kB
  have e1B:=kB _ _ (by simp [l1p]) e1
  have hthB:=kXB _ _ (by simp [thp]) hth5
  have kx:Keep [] HB (upd HB lx (.lst [odd])):=Keep.new hx
  have ex:upd HB lx (.lst [odd]) lx=some (.lst [odd]):=upd_same
  generalize upd HB lx (.lst [odd])=HC at kx ex ⊢
  refine ⟨l1,lx,_,_,rfl,rfl,kx _ _ (by simp) e1B,ex,by have h:=(cut_in us none (some k)).2;rw [sizeLine_eq];show _ + 1 <= _;omega,fun lc hc=>?_⟩
  have kc:Keep [] HC (upd HC lc (.lst (cutV us none (some k) ++ [odd]))):=Keep.new hc
  have ec:upd HC lc (.lst (cutV us none (some k) ++ [odd])) lc=some (.lst (cutV us none (some k) ++ [odd])):=upd_same
  have hpC:=kx _ _ (by simp) hpB
  have lcp:lc ≠ p:=Ne.symm (ne_of_none hpC hc)
  have kBC:=kx.trans kc
  generalize upd HC lc (.lst (cutV us none (some k) ++ [odd]))=HD at kc ec kBC ⊢
  refine ⟨_,rfl,_,rfl,_,rfl,p,a6,b6,c6,2,rfl,kBC _ _ (by simp) hpB,by decide,by decide,fun m a7 c7 m0 m1=>?_⟩
  have kp7:Keep [p] HD (upd HD p (.lst [.int a7,.int b6,.int c7])):=Keep.at (by simp)
  have hp7:upd HD p (.lst [.int a7,.int b6,.int c7]) p=some (.lst [.int a7,.int b6,.int c7]):=upd_same
  generalize upd HD p (.lst [.int a7,.int b6,.int c7])=HE at kp7 hp7 ⊢
  have kXE:Keep [p] H5 HE:=(kXB.trans (kBC.mono (by simp))).trans kp7
  refine ⟨_,_,rfl,rfl,_,rfl,th,_,rfl,.of (kXE _ _ (by simp [thp]) hth5),fun l2 h2=>?_⟩
  have k2:Keep [] HE (upd HE l2 (.lst (cutV us (some (k + m)) none))):=Keep.new h2
  have e2:upd HE l2 (.lst (cutV us (some (k + m)) none)) l2=some (.lst (cutV us (some (k + m)) none)):=upd_same
  generalize upd HE l2 (.lst (cutV us (some (k + m)) none))=HF at k2 e2 ⊢
  refine ⟨lc,l2,_,_,rfl,rfl,k2 _ _ (by simp) (kp7 _ _ (by simp [lcp]) ec),e2,by have h:=(cut_in us none (some k)).2;have h':=(cut_in us (some (k + m)) none).2;rw [List.length_append,sizeLine_eq];show _ + 1 + _ <= _;omega,fun lr hlr=>?_⟩
  have hpF:=k2 _ _ (by simp) hp7
  have lrp:lr ≠ p:=Ne.symm (ne_of_none hpF hlr)
  have kr:∀ o,Keep [] HF (upd HF lr o):=fun o=>Keep.new hlr
  have kEF:∀ o,Keep [p] HE (upd HF lr o):=fun o=>(k2.trans (kr o)).mono (by simp)
  exact q (.ref lr) _ (tg_put (n:=2) upd_same lrp lus (fun u hu=>Tg.mono (by decide) (Tg.keep (kXE.trans (kEF _)) (tg5 u hu))) (Tg.keep ((((kBC.mono (by simp)).trans kp7).trans (kEF _))) to)) ⟨_,_,_,kr _ _ _ (by simp) hpF⟩ (kH5.trans (kXE.trans (kEF _)))
 refine ⟨_,rfl,rfl,_,rfl,ite2 (fun e3=>?_) (fun e3=>?_)⟩
 ·refine ⟨_,rfl,_,rfl,_,rfl,th,_,rfl,.of hth4,fun l1 h1=>?_⟩
  have ka:Keep [] H4 (upd H4 l1 (.lst (cutV us none (some k)))):=Keep.new h1
  have e1:upd H4 l1 (.lst (cutV us none (some k))) l1=some (.lst (cutV us none (some k))):=upd_same
  generalize upd H4 l1 (.lst (cutV us none (some k)))=HA at ka e1 ⊢
  refine ⟨_,rfl,_,rfl,by show 2 <= sizeLine;decide,fun tx htx=>?_⟩
  have kt:Keep [] HA (upd HA tx (.tup [.str z1,.str z2])):=Keep.new htx
  have et:upd HA tx (.tup [.str z1,.str z2]) tx=some (.tup [.str z1,.str z2]):=upd_same
  have txp:tx ≠ p:=Ne.symm (ne_of_none (ka _ _ (by simp) hp4) htx)
  generalize upd HA tx (.tup [.str z1,.str z2])=HB at kt et ⊢
  refine ⟨by show 1 <= sizeLine;decide,fun lx hx=>?_⟩
  have kx:Keep [] HB (upd HB lx (.lst [.ref tx])):=Keep.new hx
  have ex:upd HB lx (.lst [.ref tx]) lx=some (.lst [.ref tx]):=upd_same
  generalize upd HB lx (.lst [.ref tx])=HC at kx ex ⊢
  refine ⟨l1,lx,_,_,rfl,rfl,(kt.trans kx) _ _ (by simp) e1,ex,by have h:=(cut_in us none (some k)).2;rw [sizeLine_eq];show _ + 1 <= _;omega,fun lc hc=>?_⟩
  have kc:Keep [] HC (upd HC lc (.lst (cutV us none (some k) ++ [.ref tx]))):=Keep.new hc
  have ec:upd HC lc (.lst (cutV us none (some k) ++ [.ref tx])) lc=some (.lst (cutV us none (some k) ++ [.ref tx])):=upd_same
  generalize upd HC lc (.lst (cutV us none (some k) ++ [.ref tx]))=HD at kc ec ⊢
  have k4D:=((ka.trans kt).trans kx).trans kc
  refine ⟨_,rfl,_,rfl,_,_,rfl,rfl,_,rfl,th,_,rfl,.of (k4D _ _ (by simp) hth4),fun l2 h2=>?_⟩
  have k2:Keep [] HD (upd HD l2 (.lst (cutV us (some (k + 1)) none))):=Keep.new h2
  have e2:upd HD l2 (.lst (cutV us (some (k + 1)) none)) l2=some (.lst (cutV us (some (k + 1)) none)):=upd_same
  generalize upd HD l2 (.lst (cutV us (some (k + 1)) none))=HF at k2 e2 ⊢
  refine ⟨lc,l2,_,_,rfl,rfl,k2 _ _ (by simp) ec,e2,by have h:=(cut_in us none (some k)).2;have h':=(cut_in us (some (k + 1)) none).2;rw [List.length_append,sizeLine_eq];show _ + 1 + _ <= _;omega,fun lr hlr=>?_⟩
  have kr:∀ o,Keep [] HF (upd HF lr o):=fun o=>Keep.new hlr
  have k4r:∀ o,Keep [p] H4 (upd HF lr o):=fun o=>((k4D.trans k2).trans (kr o)).mono (by simp)
  exact q (.ref lr) _ (tg_put (n:=2) upd_same (Ne.symm (ne_of_none ((k4D.trans k2) _ _ (by simp) hp4) hlr)) lus (fun u hu=>Tg.mono (by decide) (Tg.keep (k4r _) (tg4 u hu))) (Tg.tup ((((kx.trans kc).trans k2).trans (kr _)) _ _ (by simp) et) txp (by show 2 < 4;decide) (all2 (Tg.of s1 1) (Tg.of s2 1)))) ⟨_,_,_,((k4D.trans k2).trans (kr _)) _ _ (by simp) hp4⟩ (k4.trans (k4r _))
 refine ⟨_,rfl,rfl,_,rfl,ite2 (fun e4=>?_) (fun e4=>?_)⟩
 ·refine ⟨_,rfl,_,rfl,_,rfl,th,_,rfl,.of hth4,fun l1 h1=>?_⟩
  have ka:Keep [] H4 (upd H4 l1 (.lst (cutV us none (some k)))):=Keep.new h1
  have e1:upd H4 l1 (.lst (cutV us none (some k))) l1=some (.lst (cutV us none (some k))):=upd_same
  generalize upd H4 l1 (.lst (cutV us none (some k)))=HA at ka e1 ⊢
  refine ⟨_,rfl,_,rfl,by show 2 <= sizeLine;decide,fun tx htx=>?_⟩
  have kt:Keep [] HA (upd HA tx (.tup [.str z1,.str z2])):=Keep.new htx
  have et:upd HA tx (.tup [.str z1,.str z2]) tx=some (.tup [.str z1,.str z2]):=upd_same
  have txp:tx ≠ p:=Ne.symm (ne_of_none (ka _ _ (by simp) hp4) htx)
  generalize upd HA tx (.tup [.str z1,.str z2])=HB at kt et ⊢
  refine ⟨by show 1 <= sizeLine;decide,fun lx hx=>?_⟩
  have kx:Keep [] HB (upd HB lx (.lst [.ref tx])):=Keep.new hx
  have ex:upd HB lx (.lst [.ref tx]) lx=some (.lst [.ref tx]):=upd_same
  generalize upd HB lx (.lst [.ref tx])=HC at kx ex ⊢
  refine ⟨l1,lx,_,_,rfl,rfl,(kt.trans kx) _ _ (by simp) e1,ex,by have h:=(cut_in us none (some k)).2;rw [sizeLine_eq];show _ + 1 <= _;omega,fun lc hc=>?_⟩
  have kc:Keep [] HC (upd HC lc (.lst (cutV us none (some k) ++ [.ref tx]))):=Keep.new hc
  have ec:upd HC lc (.lst (cutV us none (some k) ++ [.ref tx])) lc=some (.lst (cutV us none (some k) ++ [.ref tx])):=upd_same
  generalize upd HC lc (.lst (cutV us none (some k) ++ [.ref tx]))=HD at kc ec ⊢
  have k4D:=((ka.trans kt).trans kx).trans kc
  refine ⟨_,rfl,_,rfl,_,rfl,th,_,rfl,.of (k4D _ _ (by simp) hth4),fun l2 h2=>?_⟩
  have k2:Keep [] HD (upd HD l2 (.lst (cutV us (some k) none))):=Keep.new h2
  have e2:upd HD l2 (.lst (cutV us (some k) none)) l2=some (.lst (cutV us (some k) none)):=upd_same
  generalize upd HD l2 (.lst (cutV us (some k) none))=HF at k2 e2 ⊢
  refine ⟨lc,l2,_,_,rfl,rfl,k2 _ _ (by simp) ec,e2,by have h:=(cut_in us none (some k)).2;have h':=(cut_in us (some k) none).2;rw [List.length_append,sizeLine_eq];show _ + 1 + _ <= _;omega,fun lr hlr=>?_⟩
  have kr:∀ o,Keep [] HF (upd HF lr o):=fun o=>Keep.new hlr
  have k4r:∀ o,Keep [p] H4 (upd HF lr o):=fun o=>((k4D.trans k2).trans (kr o)).mono (by simp)
  exact q (.ref lr) _ (tg_put (n:=2) upd_same (Ne.symm (ne_of_none ((k4D.trans k2) _ _ (by simp) hp4) hlr)) lus (fun u hu=>Tg.mono (by decide) (Tg.keep (k4r _) (tg4 u hu))) (Tg.tup ((((kx.trans kc).trans k2).trans (kr _)) _ _ (by simp) et) txp (by show 2 < 4;decide) (all2 (Tg.of s1 1) (Tg.of s2 1)))) ⟨_,_,_,((k4D.trans k2).trans (kr _)) _ _ (by simp) hp4⟩ (k4.trans (k4r _))
 refine ⟨_,rfl,_,rfl,_,rfl,th,_,rfl,.of hth4,fun l1 h1=>?_⟩
 have ka:Keep [] H4 (upd H4 l1 (.lst (cutV us none (some k)))):=Keep.new h1
 have e1:upd H4 l1 (.lst (cutV us none (some k))) l1=some (.lst (cutV us none (some k))):=upd_same
 have l1p:l1 ≠ p:=Ne.symm (ne_of_none hp4 h1)
 generalize upd H4 l1 (.lst (cutV us none (some k)))=HA at ka e1 ⊢
 refine ⟨_,rfl,_,rfl,p,la,zs,rfl,⟨_,_,_,ka _ _ (by simp) hp4⟩,ka _ _ (by simp) hla4,gz,ne,lz,fun odd HB to ⟨a6,b6,c6,hpB⟩ kB=>⟨by show 1 <= sizeLine;decide,fun lx hx=>?_⟩⟩
 have kXB:Keep [p] H4 HB:=(ka.mono (by simp)).trans kB
 have e1B:=kB _ _ (by simp [l1p]) e1
 have hthB:=kXB _ _ (by simp [thp]) hth4
 have kx:Keep [] HB (upd HB lx (.lst [odd])):=Keep.new hx
 have ex:upd HB lx (.lst [odd]) lx=some (.lst [odd]):=upd_same
 generalize upd HB lx (.lst [odd])=HC at kx ex ⊢
 refine ⟨l1,lx,_,_,rfl,rfl,kx _ _ (by simp) e1B,ex,by have h:=(cut_in us none (some k)).2;rw [sizeLine_eq];show _ + 1 <= _;omega,fun lc hc=>?_⟩
 have kc:Keep [] HC (upd HC lc (.lst (cutV us none (some k) ++ [odd]))):=Keep.new hc
 have ec:upd HC lc (.lst (cutV us none (some k) ++ [odd])) lc=some (.lst (cutV us none (some k) ++ [odd])):=upd_same
 have hpC:=kx _ _ (by simp) hpB
 have lcp:lc ≠ p:=Ne.symm (ne_of_none hpC hc)
 have kBC:=kx.trans kc
 generalize upd HC lc (.lst (cutV us none (some k) ++ [odd]))=HD at kc ec kBC ⊢
 refine ⟨_,rfl,_,rfl,_,rfl,p,a6,b6,c6,2,rfl,kBC _ _ (by simp) hpB,by decide,by decide,fun m a7 c7 m0 m1=>?_⟩
 have kp7:Keep [p] HD (upd HD p (.lst [.int a7,.int b6,.int c7])):=Keep.at (by simp)
 have hp7:upd HD p (.lst [.int a7,.int b6,.int c7]) p=some (.lst [.int a7,.int b6,.int c7]):=upd_same
 generalize upd HD p (.lst [.int a7,.int b6,.int c7])=HE at kp7 hp7 ⊢
 have kXE:Keep [p] H4 HE:=(kXB.trans (kBC.mono (by simp))).trans kp7
 refine ⟨_,_,rfl,rfl,_,rfl,th,_,rfl,.of (kXE _ _ (by simp [thp]) hth4),fun l2 h2=>?_⟩
 have k2:Keep [] HE (upd HE l2 (.lst (cutV us (some (k + m)) none))):=Keep.new h2
 have e2:upd HE l2 (.lst (cutV us (some (k + m)) none)) l2=some (.lst (cutV us (some (k + m)) none)):=upd_same
 generalize upd HE l2 (.lst (cutV us (some (k + m)) none))=HF at k2 e2 ⊢
 refine ⟨lc,l2,_,_,rfl,rfl,k2 _ _ (by simp) (kp7 _ _ (by simp [lcp]) ec),e2,by have h:=(cut_in us none (some k)).2;have h':=(cut_in us (some (k + m)) none).2;rw [List.length_append,sizeLine_eq];show _ + 1 + _ <= _;omega,fun lr hlr=>?_⟩
 have hpF:=k2 _ _ (by simp) hp7
 have lrp:lr ≠ p:=Ne.symm (ne_of_none hpF hlr)
 have kr:∀ o,Keep [] HF (upd HF lr o):=fun o=>Keep.new hlr
 have kEF:∀ o,Keep [p] HE (upd HF lr o):=fun o=>(k2.trans (kr o)).mono (by simp)
 exact q (.ref lr) _ (tg_put (n:=2) upd_same lrp lus (fun u hu=>Tg.mono (by decide) (Tg.keep (kXE.trans (kEF _)) (tg4 u hu))) (Tg.keep ((((kBC.mono (by simp)).trans kp7).trans (kEF _))) to)) ⟨_,_,_,kr _ _ _ (by simp) hpF⟩ (k4.trans (kXE.trans (kEF _)))
end
end K03
namespace L2
open PySem PySem.Spec PyProof.Rows PySem.W
theorem nk_list:typeLookup (.type "list") "keys"=pure none:=by rw [typeLookup_type,builtinLookup_eq_fast];kernel_rfl
theorem ng_list:typeLookup (.type "list") "__getattr__"=pure none:=by rw [typeLookup_type,builtinLookup_eq_fast];kernel_rfl
section
variable {prog:Program} {w:World} {A:Around} {E:Value->Shared->Prop} {h:Heap} {g:Array GenState} {d:Drawn} {t:Nat} {os:OsState} {a:Addr} {o:Obj}
theorem ga_list {its:Array Value} {n:Nat} {tk:Tok} {Q:Fin->Shared->Prop} (hA:A.handled=none) (hx:h.get? a=some o) (hc:o.cls=.type "list") (hdc:o.dict=none) (hd:o.data=.seq its n)
  (hq:∀ h' t' e,Heap.NewAttrErr h h' e (.ref a) "keys"->E (.ref e) ⟨h',g,d,t',os⟩):wpAny (model prog w) A (Builtin.«object.__getattribute__» ⟨[.ref a,.str "keys" tk],[]⟩) Q E ⟨h,g,d,t,os⟩:=by
 obtain ⟨ocls,odict,odata,oslots⟩:=o
 simp only at hc hdc hd
 subst hc;subst hdc;subst hd
 have hT:(⟨h,g,d,t,os⟩:Shared).TypeIs (.ref a) "list":=⟨_,hx,rfl⟩
 have f4:=nk_list
 unfold Builtin.«object.__getattribute__»
 repeat (any_goals (first | assumption | wp_step))
 exact wpAny_raiseAttrError hA hq (attrMsg_fits (by decide +kernel) (by rw [sizeLine_eq];decide +kernel))
theorem no_keys {its:Array Value} {n:Nat} {Q:Option Value->Shared->Prop} (hA:A.handled=none) (hx:h.get? a=some o) (hc:o.cls=.type "list") (hdc:o.dict=none) (hd:o.data=.seq its n)
  (hq:∀ h' t',(∀ b ob,h.get? b=some ob->h'.get? b=some ob)->Q none ⟨h',g,d,t',os⟩):wpAny (model prog w) A (getAttr? (.ref a) "keys") Q E ⟨h,g,d,t,os⟩:=by
 obtain ⟨ocls,odict,odata,oslots⟩:=o
 simp only at hc hdc hd
 subst hc;subst hdc;subst hd
 have hT:∀ tk,(⟨h,g,d,tk,os⟩:Shared).TypeIs (.ref a) "list":=fun _=>⟨_,hx,rfl⟩
 have f1:=sub_AttributeError
 have f3:=F.slot_list_getattribute.lookup
 have f4:=F.slot_list_getattribute.bind (.ref a)
 have f5:=ng_list
 unfold getAttr? getAttrBy? getAttrBy
 repeat (any_goals (first | assumption | ((with_reducible show wpAny _ _ (call (Value.builtin "list.__getattribute__") _ _) _ _ _);refine wpAny_call (codeAny_call_builtin F.slot_list_getattribute.plain F.entry_list_ga (F.slot_list_getattribute.check _ _ _ _ _ _ _ _ (hT _) (F.args_list_getattribute_2 _ _) (ga_list (A:=_) hA hx rfl rfl rfl fun h' t' e hx=>?_)))) | wp_step))
 obtain ⟨t1,u1,he⟩:=hx.there
 repeat (any_goals (first | assumption | wp_step))
 exact hq _ _ hx.keeps
end
end L2
namespace L2
open PySem PySem.Spec PyProof.Rows PySem.W
theorem entry_dul:entryFor table "dict.update.loop"=some Builtin.«dict.update.loop»:=entryFor_of_tree (by kernel_rfl)
def putP (p:Nat->Key × Value):Nat->List (Key × Value)
 | 0=>[]
 | i + 1=>stored (putP p i) (p i).1 (p i).2
theorem putP_le (p:Nat->Key × Value):∀ i,(putP p i).length <= i
 | 0=>Nat.le_refl _
 | i + 1=>by
  have:=putP_le p i
  show (stored (putP p i) (p i).1 (p i).2).length <= _
  unfold stored
  split
  ·rw [List.length_map];omega
  ·rw [List.length_append];show _ + 1 <= _;omega
section
variable {prog:Program} {w:World} {A:Around} {R:Result->Shared->Prop} {I:Addr} {fp wr:List Addr} {G:Array GenState->Array GenState->Prop} {n:Nat} {P:Nat->Value->Prop} {St:Nat->Shared->Prop}
theorem dict_turns (W:WalksS prog w A.in1 I fp wr G n P St) (D:Addr) (hDf:D ∉ fp) (h0:Heap) (p:Nat->Key × Value)
  (hval:∀ i v,P i v->∃ (q:Addr) (o:Obj) (m:Nat) (k:Value),v=.ref q/\q ≠ D/\q ∉ wr/\h0.get? q=some o/\o.cls=.type "tuple"/\o.data=.seq #[k,(p i).2] m/\(mixKind prog w).is (p i).1 k=true) (hb:n <= sizeLine) :
  ∀ (k i:Nat) (s:Shared) (j:Int),n - i=k->i <= n->St i s->(∀ b o,b ≠ D->b ∉ wr->h0.get? b=some o->s.heap.get? b=some o)->s.heap.DictOf (mixKind prog w) D (putP p i) ->
  (∀ s',Moved (D :: wr) G s s'->s'.heap.DictOf (mixKind prog w) D (putP p n)->R (.ok (.ret .none)) s')->codeAny (model prog w) A (.builtin "dict.update.loop" ⟨[.ref D,.ref I,rawInt j,.none],[]⟩) R s:=by
 have nw:D ∉ wr:=fun z=>hDf (W.sub _ z)
 have more:∀ b ∈ wr,b ∈ D :: wr:=fun b z=>List.mem_cons_of_mem _ z
 intro k
 induction k with
 | zero=>
  intro i s j hk hi st kp hD hR
  obtain rfl:i=n:=by omega
  refine codeAny_builtin entry_dul ?_
  rw [Around.under_plainId (by decide +kernel) _]
  show wpAny _ A.in1 (pyNext (.ref I) >>= _) _ _ s
  refine wpAny_bind (W.done s _ _ st fun s' hm=>?_)
  refine wpAny_bind (wpAny_pure (wpAny_pure (hR s' (hm.mono more) ?_)))
  obtain ⟨o,es,ep,ho,r⟩:=hD
  exact ⟨o,es,ep,hm.heap D _ nw ho,r⟩
 | succ k ih=>
  intro i s j hk hi st kp hD hR
  have lt:i < n:=by omega
  refine codeAny_builtin entry_dul ?_
  rw [Around.under_plainId (by decide +kernel) _]
  show wpAny _ A.in1 (pyNext (.ref I) >>= _) _ _ s
  refine wpAny_bind (W.item i s _ _ lt st fun v s' hP st' hm=>?_)
  obtain ⟨q,o,m,kk,rfl,qD,qw,hq,hc,hd,hkk⟩:=hval i v hP
  have hq':=hm.heap q _ qw (kp q _ qD qw hq)
  obtain ⟨ocls,odict,odata,oslots⟩:=o
  simp only at hc hd
  subst hc;subst hd
  have hD1:s'.heap.DictOf (mixKind prog w) D (putP p i):=by
   obtain ⟨o,es,ep,ho,r⟩:=hD
   exact ⟨o,es,ep,hm.heap D _ nw ho,r⟩
  have room:=putP_le p i
  have hT:s'.TypeIs (.ref q) "tuple":=⟨_,hq',rfl⟩
  have fin:wpAny (model prog w) A.in1 (dictSet D kk (p i).2) (fun _ s2=>codeAny (model prog w) A (.builtin "dict.update.loop" ⟨[.ref D,.ref I,rawInt (j + 1),.none],[]⟩) R s2) (fun e s2=>R (.error e) s2) s':=by
   refine wpAny_dictSet_pairs (hsz:=by omega) hkk hD1 fun h' hD2 hsb=>?_
   have hs:∀ b o,b ≠ D->s'.heap.get? b=some o->h'.get? b=some o:=fun b o ne e=>by rw [hsb.2 b ne];exact e
   refine ih (i + 1) _ (j + 1) (by omega) lt (W.frame _ s' _ _ st' (Nat.le_succ _) fun b hb o e=>hs b o (fun z=>hDf (by rw [<- z];exact hb)) e) (fun b o ne nb e=>hs b o ne (hm.heap b _ nb (kp b o ne nb e))) hD2 fun s2 hm2 hD4=>hR s2 (Moved.trans W.gtrans ((hm.mono more).then_heap (Nat.le_succ _) fun b o hb e=>hs b o (fun z=>hb (by rw [z];exact List.mem_cons_self)) e) hm2) hD4
  obtain ⟨g0,g1,g2,g3,g4⟩:=s'
  refine wpAny_bind ?_
  have ef:∀ s2,codeAny (model prog w) A (.builtin "dict.update.loop" ⟨[.ref D,.ref I,rawInt (j + 1),.none],[]⟩) R s2->wpAny (model prog w) A.in1 (again (.builtin "dict.update.loop" ⟨[.ref D,.ref I,rawInt (j + 1),.none],[]⟩)) (fun fin s'=>match fin with | .done f=>R (.ok f) s' | .again c'=>c'.quiet=true/\codeAny (model prog w) A c' R s') (fun e s'=>R (.error e) s') s2:=fun s2 h=>wpAny_pure ⟨plainId_quiet (by decide +kernel) _,h⟩
  refine wpAny_holding (wpAny_bind (wpAny_tryCatch ?_))
  unfold Builtin.Dict.pairItems
  refine wpAny_bind (wpAny_typeOf hT ?_)
  rw [if_pos (by decide)]
  have go:wpAny (model prog w) A.in1 (holding [kk,(p i).2] (dictSet D kk (p i).2)) (fun _ s2=>wpAny (model prog w) A.in1 (again (.builtin "dict.update.loop" ⟨[.ref D,.ref I,rawInt (j + 1),.none],[]⟩)) (fun fin s'=>match fin with | .done f=>R (.ok f) s' | .again c'=>c'.quiet=true/\codeAny (model prog w) A c' R s') (fun e s'=>R (.error e) s') s2) (fun e s2=>R (.error e) s2) ⟨g0,g1,g2,g3,g4⟩:=wpAny_holding (wpAny_mono fin (fun _ s2 h=>ef s2 h) fun _ _ h=>h)
  repeat (any_goals (first | exact go | wp_step))
end
section
variable {prog:Program} {w:World} {A:Around} {E:Value->Shared->Prop} {s:Shared}
theorem dict_pairs {l:Addr} {items:Array Value} {nl:Nat} {ol:Obj} {p:Nat->Key × Value} {Q:Value->Shared->Prop} (hh:A.handled=none) (hl:s.heap.get? l=some ol) (hc:ol.cls=.type "list") (hdc:ol.dict=none) (hd:ol.data=.seq items nl)
  (hv:∀ (i:Nat) (v:Value),items[i]?=some v->∃ (q:Addr) (o:Obj) (m:Nat) (k:Value),v=.ref q/\s.heap.get? q=some o/\o.cls=.type "tuple"/\o.data=.seq #[k,(p i).2] m/\(mixKind prog w).is (p i).1 k=true) (hb:items.size <= sizeLine)
  (h:∀ (g:Heap) (tk:Nat),g.DictOf (mixKind prog w) s.heap.objs.size (putP p items.size)->(∀ b o,s.heap.get? b=some o->g.get? b=some o)->Q (.ref s.heap.objs.size) { s with heap:=g,toks:=tk }) :
  wpAny (model prog w) A (call (.type "dict") [.ref l]) Q E s:=by
 refine callType_codes (Q₁:=fun obj s₁=>obj=.ref s.heap.objs.size/\s₁ = { s with heap:=s.heap.push { cls:=.type "dict",data:=.dict #[] } }) F.kt_called_dict (F.kt_typeCall_dict_1 _) F.entry_dict_init (kt_code_dict_new _ ⟨rfl,rfl⟩) ?_
 rintro obj s₁ ⟨rfl,rfl⟩
 have hnew:(s.heap.push { cls:=.type "dict",data:=.dict #[] }).DictOf (mixKind prog w) s.heap.objs.size []:=Heap.DictOf.new s.heap
 have hl1:(s.heap.push { cls:=.type "dict",data:=.dict #[] }).get? l=some ol:=Heap.get?_push_of_some _ hl
 refine ⟨hnew.typeIs,F.args_dict_init_2 _ _,?_⟩
 unfold Builtin.«dict.__init__»
 refine wpAny_bind ?_
 unfold Builtin.Dict.selfAndRest
 refine wpAny_bind (wpAny_notOrdered_dict hnew.typeIs ?_)
 show wpAny _ _ (pure (s.heap.objs.size,[Value.ref l])) _ _ _
 refine wpAny_pure ?_
 show wpAny _ _ (Builtin.Dict.updateFrom "dict.__init__" s.heap.objs.size (.ref l) [] .none) _ _ _
 unfold Builtin.Dict.updateFrom
 refine wpAny_bind (wpAny_typeOf (T:="list") ⟨ol,hl1,hc⟩ ?_)
 rw [if_pos (by decide)]
 refine wpAny_bind (no_keys (A:=A.in1.in1) hh hl1 hc hdc hd fun h' t' kp=>?_)
 rw [if_pos (show (none:Option Value).isNone=true from rfl)]
 have hl2:=kp _ _ hl1
 have hlL:h'.IsList l items:=⟨_,hl2,hc,nl,hd⟩
 refine wpAny_bind (wpAny_rule (wpAny_bind (wpAny_pyIter_list hlL (wpAny_pure ⟨plainId_quiet (by decide +kernel) _,?_⟩))))
 have sD:(s.heap.push { cls:=.type "dict",data:=.dict #[] }).objs.size=s.heap.objs.size + 1:=Heap.size_push _ _
 have hDn:(s.heap.push { cls:=.type "dict",data:=.dict #[] }).get? s.heap.objs.size=some { cls:=.type "dict",data:=.dict #[] }:=Heap.get?_push_size _ rfl
 have ltl:l < s.heap.objs.size:=Heap.lt_size hl
 have ltD:s.heap.objs.size < h'.objs.size:=Heap.lt_size (kp _ _ hDn)
 have gi:(h'.push { cls:=.type "list_iterator",data:=.fields #[.ref l,.int 0 0] }).get? h'.objs.size=some { cls:=.type "list_iterator",data:=.fields #[.ref l,.int 0 0] }:=Heap.get?_push_size _ rfl
 have old:∀ b o,s.heap.get? b=some o->h'.get? b=some o:=fun b o e=>kp _ _ (Heap.get?_push_of_some _ e)
 refine dict_turns (A:=A.in1) ((Walks.list (A:=A.in1.in1) (by simp [hh]) _ l (Nat.ne_of_lt (Nat.lt_trans ltl ltD)) items).toS) s.heap.objs.size (by simp;exact ⟨Nat.ne_of_lt ltD,Nat.ne_of_gt ltl⟩) h' p (fun i v hi=>?hv) hb (items.size - 0) 0 _ 0 (by omega) (Nat.zero_le _) ⟨⟨_,gi,rfl,rfl⟩,hlL.push _⟩ (fun b o _ _ e=>Heap.get?_push_of_some _ e) ?z0 ?zR
 case hv=>
  obtain ⟨q,o,m,k,e,hq,r⟩:=hv i v hi
  have lq:q < s.heap.objs.size:=Heap.lt_size hq
  exact ⟨q,o,m,k,e,Nat.ne_of_lt lq,by simp;exact Nat.ne_of_lt (Nat.lt_trans lq ltD),old _ _ hq,r⟩
 case z0=>
  obtain ⟨o,es,ep,ho,r⟩:=hnew
  exact ⟨o,es,ep,Heap.get?_push_of_some _ (kp _ _ ho),r⟩
 case zR=>
  intro s' hm hS'
  obtain ⟨g,g',d',tk',os'⟩:=s'
  have eg:g'=s.gens:=hm.gens
  have ed:d'=s.drawn:=hm.drawn
  have eo:os'=s.os:=hm.os
  subst eg;subst ed;subst eo
  refine ⟨rfl,h g tk' hS' fun b o e=>hm.heap b o ?_ (Heap.get?_push_of_some _ (old b o e))⟩
  have lb:b < s.heap.objs.size:=Heap.lt_size e
  simp
  exact ⟨Nat.ne_of_lt lb,Nat.ne_of_lt (Nat.lt_trans lb ltD)⟩
end
def putsK (kvs:List (Key × V)):List (Key × V):=kvs.foldl (fun acc kv=>putK acc kv.1 kv.2) []
theorem putP_take {ps:List (Key × Value)} {d:Key × Value}:∀ n,n <= ps.length->putP (fun i=>ps.getD i d) n=(ps.take n).foldl (fun acc kv=>stored acc kv.1 kv.2) []
 | 0,_=>rfl
 | n + 1,h=>by
  have hn:n < ps.length:=h
  show stored (putP (fun i=>ps.getD i d) n) (ps.getD n d).1 (ps.getD n d).2=_
  rw [putP_take n (Nat.le_of_lt hn),List.take_succ,List.getElem?_eq_getElem hn,List.foldl_append,List.getD_eq_getElem?_getD,List.getElem?_eq_getElem hn]
  rfl
theorem kv_puts:∀ {kvs:List (Key × V)} {ps:List (Key × Value)} {a:List (Key × V)} {b:List (Key × Value)},KV kvs ps->KV a b->KV (kvs.foldl (fun acc kv=>putK acc kv.1 kv.2) a) (ps.foldl (fun acc kv=>stored acc kv.1 kv.2) b):=by
 intro kvs ps a b r
 unfold KV at r
 induction r generalizing a b with
 | nil=>intro h;exact h
 | @cons p q _ _ h _ ih=>
  intro hab
  rw [List.foldl_cons,List.foldl_cons]
  refine ih ?_
  rw [<- h.1]
  exact hab.put p.1 h.2
theorem putK_all {P:Key × V->Prop} {kvs:List (Key × V)} {k:Key} {v:V} (h:∀ kv ∈ kvs,P kv) (hp:P (k,v)):∀ kv ∈ putK kvs k v,P kv:=by
 intro kv hk
 unfold putK at hk
 split at hk
 ·obtain ⟨x,hx,e⟩:=List.mem_map.mp hk
  split at e
  ·rename_i ek
   rw [<- e,ek];exact hp
  ·rw [<- e];exact h x hx
 ·rcases List.mem_append.mp hk with hk | hk
  ·exact h kv hk
  ·rw [List.mem_singleton.mp hk];exact hp
theorem puts_all {P:Key × V->Prop}:∀ {kvs a:List (Key × V)},(∀ kv ∈ a,P kv)->(∀ kv ∈ kvs,P kv)->∀ kv ∈ kvs.foldl (fun acc kv=>putK acc kv.1 kv.2) a,P kv
 | [],_,h,_=>h
 | x :: kvs,_,h,g=>puts_all (kvs:=kvs) (putK_all h (g x List.mem_cons_self)) fun kv hk=>g kv (List.mem_cons_of_mem _ hk)
theorem puts_len:∀ {kvs a:List (Key × V)},(kvs.foldl (fun acc kv=>putK acc kv.1 kv.2) a).length <= a.length + kvs.length
 | [],_=>Nat.le_refl _
 | x :: kvs,a=>by
  rw [List.foldl_cons]
  have h1:=puts_len (kvs:=kvs) (a:=putK a x.1 x.2)
  have h2:=length_putK a x.1 x.2
  rw [List.length_cons];omega
section
variable {X:Cx}
theorem call_dictP (hc:X.calm=true):CallR X (.type "dict") (fun xs H Q=>∃ (a:Addr) (qs:List Addr) (kvs:List (Key × V)),xs=[.ref a]/\H a=some (.lst (qs.map V.ref))/\Paired (fun q (kv:Key × V)=>H q=some (.tup [kV kv.1,kv.2])) qs kvs/\qs.length < 1000/\∀ p,H p=none->Q (.ref p) (upd H p (.dK (putsK kvs)))):=by
 intro pins s σ H xs us Q I r h
 obtain ⟨a,qs,kvs,rfl,hA,pr,hz,q⟩:=h
 obtain ⟨u,rfl,rx⟩:=vals1 r
 cases rx
 obtain ⟨its,r',⟨ol,nl,hl,hcl,hdl,hdt⟩,hzl⟩:=I.list (.of hA)
 obtain ⟨ps,rel,hps⟩:∃ ps:List (Key × Value),KV kvs ps/\Paired (fun q (x:Key × Value)=>∃ (o:Obj) (m:Nat) (k:Value),s.heap.get? q=some o/\o.cls=.type "tuple"/\o.data=.seq #[k,x.2] m/\(mixKind X.prog X.w).is x.1 k=true) qs ps:=by
  clear hA r' hz q hzl
  induction pr with
  | nil=>exact ⟨[],.nil,.nil⟩
  | @cons b kv _ _ hb _ ih=>
   obtain ⟨ps,a1,a2⟩:=ih
   obtain ⟨ti,tr,⟨o,ho,hoc,m,hod⟩,_⟩:=I.tuple (.of hb)
   obtain ⟨u1,u2,rfl,r1,r2⟩:=vals2 tr
   exact ⟨(kv.1,u2) :: ps,.cons ⟨rfl,r2⟩ a1,.cons ⟨o,m,u1,ho,hoc,hod,kV_is r1⟩ a2⟩
 have lq:ps.length=qs.length:=(paired_len hps).symm
 have hsz:its.toArray.size=ps.length:=by
  have:=r'.length
  rw [List.length_map] at this
  rw [List.size_toArray,lq];exact this.symm
 refine dict_pairs (p:=fun i=>ps.getD i (.inl 0,.none)) (I.ok.hd hc) hl hcl hdl hdt (fun i v hi=>?_) (by rw [hsz,lq,sizeLine_eq];omega) fun g tk hD old=>?_
 ·have hv:its[i]?=some v:=by rw [<- List.getElem?_toArray];exact hi
  have li:i < qs.length:=by
   have h1:=(List.getElem?_eq_some_iff.mp hv).1
   have h2:=r'.length
   rw [List.length_map] at h2
   omega
  obtain ⟨y,hy,ry⟩:=paired_get r' i (.ref (qs[i])) (by rw [List.getElem?_map,List.getElem?_eq_getElem li];rfl)
  rw [hv] at hy
  cases hy
  cases ry
  obtain ⟨x,hx,o,m,k,h1,h2,h3,h4⟩:=paired_get hps i qs[i] (List.getElem?_eq_getElem li)
  have ex:ps.getD i (.inl 0,.none)=x:=by rw [List.getD_eq_getElem?_getD,hx];rfl
  exact ⟨_,o,m,k,rfl,h1,h2,by rw [ex];exact h3,by rw [ex];exact h4⟩
 ·rw [hsz,putP_take _ (Nat.le_refl _),List.take_length] at hD
  have rl:KV (putsK kvs) _:=kv_puts rel (.nil:KV [] [])
  have ln:(putsK kvs).length <= sizeLine:=by
   have h1:=puts_len (kvs:=kvs) (a:=[])
   have h2:=rel.length
   rw [sizeLine_eq]
   have h3:(putsK kvs).length <= 0 + kvs.length:=h1
   omega
  have nm:(s.heap.objs.size == sysModules)=false:=by
   have h1:=I.big
   exact beq_eq_false_iff_ne.mpr (Nat.ne_of_gt h1)
  refine ⟨.ref s.heap.objs.size,_,I.laid (t':=tk) (h':=g) (o:=.dK (putsK kvs)) old (Nat.le_refl _) ⟨ln,nm,_,rl,hD⟩,rfl,q _ (I.hok.fresh (Nat.le_refl _))⟩
end
end L2
namespace K03
open PySem L2
abbrev sHO:Stmt:=top 41
section
variable {P:Program} {w:World} {K:PySem.W.Frag} {mg:Str->Option Value} {base:Heap} {C:Addr}
theorem scHO:FnScope ["_law_source","_law_houses","_law_way","_law_at"] ["_law_source","_law_houses"] (defScope sHO):=⟨rfl,rfl,rfl,by decide +kernel,rfl,by decide +kernel,by decide +kernel⟩
theorem paired_mono {α β:Type} {F G:α->β->Prop} (h:∀ a b,F a b->G a b):∀ {xs:List α} {ys:List β},Paired F xs ys->Paired G xs ys
 | _,_,.nil=>.nil
 | _,_,.cons r t=>.cons (h _ _ r) (paired_mono h t)
theorem sc_houses:sc (.str "houses"):=by
 refine ⟨by decide +kernel,?_⟩
 show ∀ c ∈ ("houses" : Str).cps.toList,c < 1000
 decide +kernel
theorem rep_lo {a:Array Nat} (ha:∀ c ∈ a.toList,c < 1000):∀ (n:Nat) (acc:Array Nat),(∀ c ∈ acc.toList,c < 1000)->∀ c ∈ ((List.replicate n a).foldl (· ++ ·) acc).toList,c < 1000
 | 0,_,h=>h
 | n + 1,acc,h=>by
  rw [List.replicate_succ,List.foldl_cons]
  refine rep_lo ha n _ fun c hc=>?_
  rw [Array.toList_append] at hc
  exact (List.mem_append.mp hc).elim (h c) (ha c)
theorem q_sc {n:Int} (h0:1 <= n) (h1:n <= 8):sc (.str (repS "q" n)):=by
 refine ⟨?_,rep_lo (a:=("q" : Str).cps) (by decide +kernel) _ #[] (by simp)⟩
 rw [repS_len]
 have e:("q" : Str).length=1:=by decide +kernel
 rw [e]
 omega
open PySem.Spec PyProof.Rows PySem.Builtin.Str in
def rMulS1:R2:=fun x y H Q=>∃ z n,x=.str z/\y=.int n/\1 <= n/\1 <= z.length/\z.length * n.toNat <= 100000/\Q (.str (repS z n)) H
open PySem.Spec PyProof.Rows PySem.Builtin.Str in
theorem op_mulS1 {X:Cx}:OpR X (binaryOp .Mult) rMulS1:=by
 intro pins s σ H x y v u Q I rx ry h
 obtain ⟨z,n,rfl,rfl,hn,hz,hl,q⟩:=h
 by_cases h1:n=1
 ·subst h1
  obtain ⟨t,rfl⟩:=rx
  obtain ⟨t',rfl⟩:=ry
  have e:repS z 1=z:=by
   show (⟨#[] ++ z.cps⟩:Str)=z
   rw [Array.empty_append]
  rw [e] at q
  refine P.mul_str ?_ (fun _ h=>?_) (fun _ h=>?_) ?_
  ·decide
  ·simp at h
  ·simp at h
  ·rw [if_neg (by decide),if_pos (by simp)]
   exact ⟨.str z,H,I,⟨_,rfl⟩,q⟩
 ·exact op_mulS pins s σ H _ _ v u Q I rx ry ⟨z,n,rfl,rfl,by omega,hz,hl,q⟩
theorem midP {K:PySem.W.Frag} {σ:St} {H:Hp} {Q:VK} {li pi n:Nat} {al p:Addr} {l:List V} {i j:Int} {te tp:TE} (hl:σ[li]?=some (some (.ref al))) (hp:σ[pi]?=some (some (.int i))) (ht:∀ (H1:Hp) (R:VK),R (.int j) H1->tp σ H1 R)
  (he:∀ (H1:Hp) (R:VK),Keep [] H H1->(∀ v H2,Keep [p] H1 H2->Tg H2 p n v->Src H2 p->R v H2)->te σ H1 R) (ap:al ≠ p) (sp:Src H p) (ha:H al=some (.lst l)) (hz:l.length <= 14) (gl:∀ u ∈ l,∀ H',Tg H' p n u)
  (q:∀ (v:V) (H':Hp),Tp3 H' p n v->Src H' p->Keep [p] H H'->Q v H') :
  tOp rCat (tOp rCat (tSl (rSlL K) (tVar li) tNoPart (tPart (tVar pi))) (tLst (tCons te tNil))) (tSl (rSlL K) (tVar li) (tPart tp) tNoPart) σ H Q:=by
 refine ⟨_,hl,_,hp,_,rfl,al,_,rfl,.of ha,fun c1 h1=>?_⟩
 have k1:=Keep.new (S:=[]) (o:=.lst (cutV l none (some i))) h1
 have e1:upd H c1 (.lst (cutV l none (some i))) c1=some (.lst (cutV l none (some i))):=upd_same
 have c1p:c1 ≠ p:=by
  obtain ⟨a,b,c,hs⟩:=sp
  exact Ne.symm (ne_of_none hs h1)
 generalize upd H c1 (.lst (cutV l none (some i)))=H1 at k1 e1 ⊢
 refine he H1 _ k1 fun v H2 k2 tv s2=>⟨by show 1 <= sizeLine;decide,fun c3 h3=>?_⟩
 have k3:=Keep.new (S:=[]) (o:=.lst [v]) h3
 have e3:upd H2 c3 (.lst [v]) c3=some (.lst [v]):=upd_same
 generalize upd H2 c3 (.lst [v])=H3 at k3 e3 ⊢
 have la:=(cut_in l none (some i)).2
 have lb:=(cut_in l (some j) none).2
 have hS:1000 <= sizeLine:=by rw [sizeLine_eq];omega
 refine ⟨c1,c3,_,_,rfl,rfl,k3 _ _ (by simp) (k2 _ _ (by simp [c1p]) e1),e3,by simp only [List.length_cons,List.length_nil];omega,fun c4 h4=>?_⟩
 have k4:=Keep.new (S:=[]) (o:=.lst (cutV l none (some i) ++ [v])) h4
 have e4:upd H3 c4 (.lst (cutV l none (some i) ++ [v])) c4=some (.lst (cutV l none (some i) ++ [v])):=upd_same
 generalize upd H3 c4 (.lst (cutV l none (some i) ++ [v]))=H4 at k4 e4 ⊢
 have k24:Keep [] H2 H4:=k3.trans k4
 have k04:Keep [p] H H4:=((k1.mono (by simp)).trans k2).trans (k24.mono (by simp))
 refine ⟨_,hl,ht _ _ ⟨_,rfl,al,_,rfl,.of (k04 _ _ (by simp [ap]) ha),fun c5 h5=>?_⟩⟩
 have k5:=Keep.new (S:=[]) (o:=.lst (cutV l (some j) none)) h5
 have e5:upd H4 c5 (.lst (cutV l (some j) none)) c5=some (.lst (cutV l (some j) none)):=upd_same
 generalize upd H4 c5 (.lst (cutV l (some j) none))=H5 at k5 e5 ⊢
 refine ⟨c4,c5,_,_,rfl,rfl,k5 _ _ (by simp) e4,e5,by simp only [List.length_append,List.length_cons,List.length_nil];omega,fun c6 h6=>?_⟩
 have k6:=Keep.new (S:=[]) (o:=.lst (cutV l none (some i) ++ [v] ++ cutV l (some j) none)) h6
 have k2':=(k24.trans k5).trans k6
 have c6p:c6 ≠ p:=by
  obtain ⟨a,b,c,hs⟩:=s2
  exact Ne.symm (ne_of_none ((k24.trans k5) _ _ (by simp) hs) h6)
 refine q (.ref c6) _ (tg_put upd_same c6p hz (fun u hu=>gl u hu _) (Tg.keep (k2'.mono (by simp)) tv)) ?_ (k04.trans ((k5.trans k6).mono (by simp)))
 obtain ⟨a,b,c,hs⟩:=s2
 exact ⟨a,b,c,k2' _ _ (by simp) hs⟩
def spHO:Sp:=fun vs H Q _=>∃ (p la:Addr) (zs:List Str),vs=[.ref p,.ref la]/\Src H p/\H la=some (.lst (zs.map V.str))/\(∀ z ∈ zs,GoodN z)/\zs ≠ []/\zs.length <= 14/\∀ (v:V) (H':Hp),Tp3 H' p 1 v->Src H' p->Keep [p] H H'->Q v H'
theorem okHO (G:FunG K mg "_law_houses_otherwise" sHO ["_law_source","_law_houses"]) (CN:Cal P w K mg base CX0 2 "_law_next" ["_law_source","_law_many"] spNext) (CO:Cal P w K mg base CX0 3 "_law_odd_name" ["_law_source","_law_names_here"] spON) (b_len:Blt mg "len") (b_tuple:Blt mg "tuple") (b_dict:Blt mg "dict"):Cal P w K mg base CX0 4 "_law_houses_otherwise" ["_law_source","_law_houses"] spHO:=by
 refine G.ok scHO (fun vs H Q E h=>by obtain ⟨p,la,zs,rfl,_⟩:=h;rfl) (fun f cdv A outer s0 H vs Q E hr h=>?_)
 obtain ⟨p,la,zs,rfl,⟨a,b,c,hp⟩,hla,gz,ne,lz,q⟩:=h
 have hr3:Room 3 _:=hr
 have hr2:Room 2 _:=hr.mono (by decide)
 refine ⟨_,(pss_cons (ps_set (i:=2) scHO.nd rfl (Or.inl rfl) (pe_cal CN hr2 (pa_cons (pv 0) (pa_cons pe_int pa_nil))))
   (pss_cons (ps_set (i:=3) scHO.nd rfl (Or.inl rfl) (pe_cal CN hr2 (pa_cons (pv 0) (pa_cons (pe_op op_add (pe_blt call_len b_len bo_len (pa_cons (pv 1) pa_nil)) pe_int) pa_nil))))
   (pss_cons (ps_if (pt_cmpR op_eq (pv 2) pe_int (nomark _)) (pss_one (ps_ret (pe_ix ix_lstH (pe_lst (pa_cons pe_non (pa_cons (pe_callTy call_tuple_of rfl b_tuple.no bo_tuple (pa_cons (pv 1) pa_nil)) (pa_cons pe_str (pa_cons (pe_lst pa_nil) (pa_cons pe_dnewK (pa_cons pe_int (pa_cons (pe_callTy (call_dictP rfl) rfl b_dict.no bo_dict (pa_cons (pe_lc1 (N:=["_law_source","_law_houses","_law_way","_law_at"]) (sc:=(defScope sHO)) (ix:=[]) (by decide +kernel) (pi_list (pv 1)) (fun _ _ _ _=>pts_nil) (fun _ _ _ _=>(pe_tup (pa_cons (pv 0) (pa_cons pe_int pa_nil))))) pa_nil)) pa_nil)))))))) (pe_cal CN hr2 (pa_cons (pv 0) (pa_cons pe_int pa_nil))) (fun _ _=>rfl)))) pss_nil)
   (pss_cons (ps_if (pt_cmpR op_eq (pv 2) pe_int (nomark _)) (pss_one (ps_ret (pe_op op_cat (pe_op op_cat (pe_slice sl_list (pv 1) po_none (po_some (pv 3))) (pe_lst (pa_cons (pe_ix ix_lstH (pv 1) (pe_cal CN hr2 (pa_cons (pv 0) (pa_cons (pe_blt call_len b_len bo_len (pa_cons (pv 1) pa_nil)) pa_nil))) (fun _ _=>rfl)) pa_nil))) (pe_slice sl_list (pv 1) (po_some (pv 3)) po_none)))) pss_nil)
   (pss_cons (ps_if (pt_cmpR op_eq (pv 2) pe_int (nomark _)) (pss_one (ps_ret (pe_op op_cat (pe_op op_cat (pe_slice sl_list (pv 1) po_none (po_some (pv 3))) (pe_lst (pa_cons (pe_op op_mulS1 pe_str (pe_op op_add pe_int (pe_cal CN hr2 (pa_cons (pv 0) (pa_cons pe_int pa_nil))))) pa_nil))) (pe_slice sl_list (pv 1) (po_some (pv 3)) po_none)))) pss_nil)
   (pss_cons (ps_if (pt_cmpR op_eq (pv 2) pe_int (nomark _)) (pss_one (ps_ret (pe_op op_cat (pe_slice sl_list (pv 1) po_none (po_some (pv 3))) (pe_slice sl_list (pv 1) (po_some (pe_op op_add (pv 3) pe_int)) po_none)))) pss_nil)
   (pss_one (ps_ret (pe_op op_cat (pe_op op_cat (pe_slice sl_list (pv 1) po_none (po_some (pv 3))) (pe_lst (pa_cons (pe_cal CO hr3 (pa_cons (pv 0) (pa_cons (pv 1) pa_nil))) pa_nil))) (pe_slice sl_list (pv 1) (po_some (pe_op op_add (pv 3) (pe_op op_mod (pv 2) pe_int))) po_none)))))))))),?_⟩
 have lap:la ≠ p:=src_ne hp hla ne
 have lpos:0 < zs.length:=List.length_pos_iff.mpr ne
 have lus:(zs.map V.str).length <= 14:=by rw [List.length_map];exact lz
 have gl:∀ u ∈ zs.map V.str,∀ H',Tg H' p 1 u:=fun u hu H'=>by
  obtain ⟨z,hz,rfl⟩:=List.mem_map.mp hu
  exact Tg.of (good_sc (gz z hz)) 1
 have at2:∀ {x y z:Int},upd H p (.lst [.int x,.int y,.int z]) la=some (.lst (zs.map V.str)):=by intro x y z;rw [upd_ne lap];exact hla
 refine ⟨_,rfl,p,a,b,c,6,rfl,hp,by decide,by decide,fun way a1 c1 w0 w1=>?_⟩
 refine ⟨_,rfl,_,rfl,_,_,rfl,.inl ⟨_,.of at2,rfl⟩,_,_,rfl,rfl,p,a1,b,c1,_,rfl,upd_same,by rw [List.length_map];omega,by rw [List.length_map];omega,fun k a2 c2 k0 k1=>?_⟩
 rw [upd_upd]
 have hla2:upd H p (.lst [.int a2,.int b,.int c2]) la=some (.lst (zs.map V.str)):=at2
 have hp2:upd H p (.lst [.int a2,.int b,.int c2]) p=some (.lst [.int a2,.int b,.int c2]):=upd_same
 have k2:Keep [p] H (upd H p (.lst [.int a2,.int b,.int c2])):=Keep.at (by simp)
 clear at2
 generalize upd H p (.lst [.int a2,.int b,.int c2])=H2 at hla2 hp2 k2 ⊢
 have fin:∀ (v:V) (H':Hp),Tp3 H' p 1 v->Src H' p->Keep [p] H2 H'->Q v H':=fun v H' t s k=>q v H' t s (k2.trans k)
 refine ⟨_,rfl,rfl,_,rfl,ite2 (fun e=>?_) (fun e=>?_)⟩
 ·refine ⟨_,rfl,la,_,rfl,.inl ⟨.of hla2,fun t0 h0=>?_⟩⟩
  have ka:Keep [] H2 (upd H2 t0 (.tup (zs.map V.str))):=Keep.new h0
  have et:upd H2 t0 (.tup (zs.map V.str)) t0=some (.tup (zs.map V.str)):=upd_same
  generalize upd H2 t0 (.tup (zs.map V.str))=HA at ka et ⊢
  refine ⟨by show 0 <= sizeLine;decide,fun l0 hl0=>?_⟩
  have kb:Keep [] HA (upd HA l0 (.lst [])):=Keep.new hl0
  have el0:upd HA l0 (.lst []) l0=some (.lst []):=upd_same
  have l0p:l0 ≠ p:=Ne.symm (ne_of_none (ka _ _ (by simp) hp2) hl0)
  generalize upd HA l0 (.lst [])=HB at kb el0 ⊢
  refine fun d0 hd0=>?_
  have kc:Keep [] HB (upd HB d0 (.dK [])):=Keep.new hd0
  have ed0:upd HB d0 (.dK []) d0=some (.dK []):=upd_same
  have k2B:=ka.trans kb
  have d0p:d0 ≠ p:=Ne.symm (ne_of_none (k2B _ _ (by simp) hp2) hd0)
  generalize upd HB d0 (.dK [])=HC at kc ed0 ⊢
  have k2C:=k2B.trans kc
  have hlaC:=k2C _ _ (by simp) hla2
  refine ⟨_,rfl,la,rfl,⟨_,.of hlaC⟩,fun acc hacc=>?_⟩
  have aa:la ≠ acc:=ne_of_none hlaC hacc
  refine lc_list0 (K:=K) (a:=la) (its:=zs.map V.str) (by rw [List.length_map,sizeLine_eq];omega) (fun i ys τ H1=>∃ (k:Option V) (ts:List Addr),τ=[k]/\ys=ts.map V.ref/\ts.length=i/\Paired (fun q (kv:Key × V)=>H1 q=some (.tup [kV kv.1,kv.2])) ts ((zs.take i).map fun z=>(Sum.inr z,V.int 1))/\Keep [acc] HC H1/\H1 acc=some (.lst ys)) ?_ ?_ ?_ ?_
  ·exact ⟨_,[],rfl,rfl,rfl,.nil,Keep.at (by simp),upd_same⟩
  ·rintro i ys τ H1 ⟨k,ts,rfl,rfl,tl,pr,kp,h1⟩
   exact ⟨h1,by rw [List.length_map,tl];exact Nat.le_refl _,.of (kp _ _ (by simp [aa]) hlaC)⟩
  ·rintro i ys τ H1 x hx ⟨k,ts,rfl,rfl,tl,pr,kp,h1⟩
   rw [List.getElem?_map] at hx
   cases ez:zs[i]? with
   | none=>rw [ez] at hx;cases hx
   | some z=>
    rw [ez] at hx
    obtain rfl:V.str z=x:=Option.some.inj hx
    refine ⟨_,rfl,by show 2 <= sizeLine;decide,fun tq hq=>?_⟩
    have kq:∀ o,Keep [] H1 (upd H1 tq o):=fun o=>Keep.new hq
    have ne:tq ≠ acc:=Ne.symm (ne_of_none h1 hq)
    refine ⟨kq _ _ _ (by simp) h1,_,ts ++ [tq],rfl,by rw [List.map_append];rfl,by rw [List.length_append,tl];rfl,?_,(kp.trans ((kq _).mono (by simp))).trans (Keep.at (by simp)),upd_same⟩
    rw [show zs.take (i + 1)=zs.take i ++ [z] by rw [List.take_add_one,ez];rfl,List.map_append]
    refine Paired.snoc ?_ (by rw [upd_ne ne];exact upd_same)
    have kx:Keep [acc] H1 (upd (upd H1 tq (.tup [.str z,.int 1])) acc (.lst (ts.map V.ref ++ [.ref tq]))):=((kq _).mono (by simp)).trans (Keep.at (by simp))
    clear hx
    generalize (zs.take i).map (fun z=>((Sum.inr z:Key),V.int 1))=kvs at pr
    exact paired_mono (fun q kv h=>kx _ _ (by simp;intro e;rw [e,h1] at h;cases h) h) pr
  ·rintro ys τ H1 ⟨k,ts,rfl,rfl,tl,pr,kp,h1⟩
   have kp':=kp.drop hacc
   rw [List.length_map] at pr tl
   rw [List.take_length] at pr
   refine ⟨acc,ts,_,rfl,h1,pr,by omega,fun dp hdp=>⟨by show 7 <= sizeLine;decide,fun l5 h5=>?_⟩⟩
   have k5:Keep [] H1 (upd H1 dp (.dK (putsK (zs.map fun z=>(Sum.inr z,V.int 1))))):=Keep.new hdp
   have e5:upd H1 dp (.dK (putsK (zs.map fun z=>(Sum.inr z,V.int 1)))) dp=some (.dK (putsK (zs.map fun z=>(Sum.inr z,V.int 1)))):=upd_same
   have hpH:=(k2C.trans kp') _ _ (by simp) hp2
   have dpp:dp ≠ p:=Ne.symm (ne_of_none hpH hdp)
   generalize upd H1 dp (.dK (putsK (zs.map fun z=>(Sum.inr z,V.int 1))))=H5 at k5 e5 h5 ⊢
   have kC5:=kp'.trans k5
   have hp5:=k5 _ _ (by simp) hpH
   have l5p:l5 ≠ p:=Ne.symm (ne_of_none hp5 h5)
   have k6:∀ o,Keep [] H5 (upd H5 l5 o):=fun o=>Keep.new h5
   refine ⟨_,rfl,p,a2,b,c2,7,rfl,k6 _ _ _ (by simp) hp5,by decide,by decide,fun m a5 c5 m0 m1=>?_⟩
   obtain ⟨v,hv1,hv2⟩:=atI_in (xs:=[V.non,.ref t0,.str "houses",.ref l0,.ref d0,.int 5,.ref dp]) m0 m1
   have kf:∀ o,Keep [p] H5 (upd (upd H5 l5 o) p (.lst [.int a5,.int b,.int c5])):=fun o=>((k6 o).mono (by simp)).trans (Keep.at (by simp))
   refine ⟨l5,_,m,v,rfl,rfl,by rw [upd_ne l5p];exact upd_same,hv1,fin v _ ?_ ⟨_,_,_,upd_same⟩ (((k2C.trans kC5).mono (by simp)).trans (kf _))⟩
   have t0p:t0 ≠ p:=Ne.symm (ne_of_none hp2 h0)
   have hm:=List.mem_of_getElem? hv2
   simp only [List.mem_cons,List.not_mem_nil,or_false] at hm
   rcases hm with rfl | rfl | rfl | rfl | rfl | rfl | rfl
   ·exact .inl (Tg.of (v:=.non) trivial 2)
   ·exact .inr (.inl ⟨t0,_,rfl,t0p,.inr (kf _ _ _ (by simp [t0p]) (((kb.trans kc).trans kC5) _ _ (by simp) et)),by omega,fun u hu=>gl u hu _⟩)
   ·exact .inl (Tg.of (v:=.str "houses") sc_houses 2)
   ·exact .inl (Tg.lst (kf _ _ _ (by simp [l0p]) ((kc.trans kC5) _ _ (by simp) el0)) l0p (by decide) (fun u hu=>absurd hu List.not_mem_nil))
   ·exact .inl (.inr (.inr ⟨d0,[],rfl,d0p,kf _ _ _ (by simp [d0p]) (kC5 _ _ (by simp) ed0),by decide,fun kv hk=>absurd hk List.not_mem_nil⟩))
   ·exact .inl (Tg.of (v:=.int 5) ⟨by decide,by decide⟩ 2)
   ·refine .inr (.inr ⟨dp,_,rfl,dpp,kf _ _ _ (by simp [dpp]) e5,?_,?_⟩)
    ·have h1:=puts_len (kvs:=zs.map fun z=>((Sum.inr z:Key),V.int 1)) (a:=[])
     rw [List.length_map,List.length_nil] at h1
     have h2:(putsK (zs.map fun z=>((Sum.inr z:Key),V.int 1))).length <= 0 + zs.length:=h1
     omega
    ·refine puts_all (P:=fun kv=>sc (kV kv.1)/\sc kv.2) (fun kv hk=>absurd hk List.not_mem_nil) fun kv hk=>?_
     obtain ⟨z,hz,rfl⟩:=List.mem_map.mp hk
     exact ⟨good_sc (gz z hz),by decide,by decide⟩
 refine ⟨_,rfl,rfl,_,rfl,ite2 (fun e=>?_) (fun e=>?_)⟩
 ·refine midP (p:=p) (n:=1) (al:=la) (l:=zs.map V.str) (i:=k) (j:=k) rfl rfl (fun H1 R r=>⟨_,rfl,r⟩) (fun H1 R k1 r=>?_) lap ⟨_,_,_,hp2⟩ hla2 lus gl fin
  refine ⟨_,rfl,_,rfl,_,rfl,_,_,rfl,.inl ⟨_,.of (k1 _ _ (by simp) hla2),rfl⟩,p,a2,b,c2,_,rfl,k1 _ _ (by simp) hp2,by rw [List.length_map];omega,by rw [List.length_map];omega,fun i a3 c3 i0 i1=>?_⟩
  obtain ⟨u,hu1,hu2⟩:=atI_in (xs:=zs.map V.str) i0 i1
  exact ⟨la,_,i,_,rfl,rfl,by rw [upd_ne lap];exact k1 _ _ (by simp) hla2,hu1,r u _ (Keep.at (by simp)) (gl u (List.mem_of_getElem? hu2) _) ⟨_,_,_,upd_same⟩⟩
 refine ⟨_,rfl,rfl,_,rfl,ite2 (fun e=>?_) (fun e=>?_)⟩
 ·refine midP (p:=p) (n:=1) (al:=la) (l:=zs.map V.str) (i:=k) (j:=k) rfl rfl (fun H1 R r=>⟨_,rfl,r⟩) (fun H1 R k1 r=>?_) lap ⟨_,_,_,hp2⟩ hla2 lus gl fin
  refine ⟨_,rfl,p,a2,b,c2,8,rfl,k1 _ _ (by simp) hp2,by decide,by decide,fun i a3 c3 i0 i1=>?_⟩
  have i1':i < 8:=i1
  refine ⟨_,_,rfl,rfl,"q",1 + i,rfl,rfl,by omega,by decide +kernel,?_,r _ _ (Keep.at (by simp)) (Tg.of (q_sc (by omega) (by omega)) 1) ⟨_,_,_,upd_same⟩⟩
  have e1:("q" : Str).length=1:=by decide +kernel
  rw [e1];omega
 refine ⟨_,rfl,rfl,_,rfl,ite2 (fun e=>?_) (fun e=>?_)⟩
 ·refine ⟨_,rfl,_,rfl,_,rfl,la,_,rfl,.of hla2,fun l1 h1=>?_⟩
  have ka:Keep [] H2 (upd H2 l1 (.lst (cutV (zs.map V.str) none (some k)))):=Keep.new h1
  have e1:upd H2 l1 (.lst (cutV (zs.map V.str) none (some k))) l1=some (.lst (cutV (zs.map V.str) none (some k))):=upd_same
  generalize upd H2 l1 (.lst (cutV (zs.map V.str) none (some k)))=H5 at ka e1 ⊢
  refine ⟨_,rfl,_,rfl,_,_,rfl,rfl,_,rfl,la,_,rfl,.of (ka _ _ (by simp) hla2),fun l2 h2=>?_⟩
  have kb:∀ o,Keep [] H5 (upd H5 l2 o):=fun o=>Keep.new h2
  have h1:=(cut_in (zs.map V.str) none (some k)).2
  have h2':=(cut_in (zs.map V.str) (some (k + 1)) none).2
  refine ⟨l1,l2,_,_,rfl,rfl,kb _ _ _ (by simp) e1,upd_same,by rw [sizeLine_eq];omega,fun l3 h3=>?_⟩
  have kc:Keep [] H2 (upd H5 l2 (.lst (cutV (zs.map V.str) (some (k + 1)) none))):=ka.trans (kb _)
  have hp6:=kc _ _ (by simp) hp2
  generalize upd H5 l2 (.lst (cutV (zs.map V.str) (some (k + 1)) none))=H6 at h3 kc hp6 ⊢
  have kd:∀ o,Keep [] H6 (upd H6 l3 o):=fun o=>Keep.new h3
  refine fin (.ref l3) _ (.inr (.inl ⟨l3,_,rfl,Ne.symm (ne_of_none hp6 h3),.inl upd_same,by rw [List.length_append];omega,fun u hu=>gl u ?_ _⟩)) ⟨_,_,_,kd _ _ _ (by simp) hp6⟩ ((kc.trans (kd _)).mono (by simp))
  rcases List.mem_append.mp hu with h | h
  ·exact (cut_in _ _ _).1 u h
  ·exact (cut_in _ _ _).1 u h
 refine midP (p:=p) (n:=1) (al:=la) (l:=zs.map V.str) (i:=k) (j:=k + way % 2) rfl rfl (fun H1 R r=>?_) (fun H1 R k1 r=>?_) lap ⟨_,_,_,hp2⟩ hla2 lus gl fin
 ·exact ⟨_,rfl,_,rfl,_,_,rfl,rfl,show (0:Int) < 2 by decide,_,_,rfl,rfl,r⟩
 ·exact ⟨_,rfl,_,rfl,p,la,zs,rfl,⟨_,_,_,k1 _ _ (by simp) hp2⟩,k1 _ _ (by simp) hla2,gz,ne,by omega,fun v H3 to s3 k3=>r v H3 k3 to s3⟩
end
abbrev sLaw:Stmt:=top 45
theorem sc_let {z:Str} (h:(decide (z.length <= 40) && z.cps.toList.all (fun c=>decide (c < 1000)))=true):sc (.str z):=by
 rw [Bool.and_eq_true,List.all_eq_true] at h
 exact ⟨of_decide_eq_true h.1,fun c hc=>of_decide_eq_true (h.2 c hc)⟩
theorem Tp3.far {H H':Hp} {p:Addr} {n:Nat} {v:V} (kp:Keep [p] H H') (h:Tp3 H p n v):Tp3 H' p n v:=by
 rcases h with h | ⟨a,us,e,ne,h,l,g⟩ | ⟨a,kvs,e,ne,h,r⟩
 ·exact .inl (h.keep kp)
 ·exact .inr (.inl ⟨a,us,e,ne,h.imp (kp _ _ (by simp [ne])) (kp _ _ (by simp [ne])),l,fun u hu=>(g u hu).keep kp⟩)
 ·exact .inr (.inr ⟨a,kvs,e,ne,kp _ _ (by simp [ne]) h,r⟩)
theorem Tp3.on {H H':Hp} {p:Addr} {n:Nat} {v:V} (k:Keep [] H H') (h:Tp3 H p n v):Tp3 H' p n v:=h.far (k.mono (by simp))
def tP (F:Addr->Hp->V->Prop):TE:=fun _ H Q=>∃ p,(∃ o,H p=some o)/\∀ v H',Keep [] H H'->F p H' v->Q v H'
def tPs (F:Addr->Hp->V->Prop) (n:Nat):TA:=fun _ H Q=>∃ p,(∃ o,H p=some o)/\∀ vs H',Keep [] H H'->vs.length=n->(∀ v ∈ vs,F p H' v)->Q vs H'
def Stb (F:Addr->Hp->V->Prop):Prop:=∀ p H H' v,Keep [] H H'->F p H v->F p H' v
def fTg (n:Nat):Addr->Hp->V->Prop:=fun p H v=>Tg H p n v
def fTp (n:Nat):Addr->Hp->V->Prop:=fun p H v=>Tp3 H p n v
def fPr:Addr->Hp->V->Prop:=fun p H v=>∃ t x y,v=.ref t/\H t=some (.tup [x,y])/\Tp3 H p 1 x/\Tp3 H p 2 y
def fRows (n:Nat):Addr->Hp->V->Prop:=fun p H v=>∃ l vs,v=.ref l/\H l=some (.lst vs)/\vs.length=n/\∀ u ∈ vs,fPr p H u
theorem stTg (n:Nat):Stb (fTg n):=fun p H H' v k h=>Tg.keep (k.mono (by simp)) h
theorem stPr:Stb fPr:=fun p H H' v k ⟨t,x,y,e,h,a,b⟩=>⟨t,x,y,e,k _ _ (by simp) h,a.on k,b.on k⟩
section
variable {X:Cx} {e e2:Expr} {es:List Expr} {pos:Pos} {n m:Nat}
theorem pe_of {t t':TE} (h:PE X e t) (w:∀ σ H Q,t' σ H Q->t σ H Q):PE X e t':=fun pins s σ H Q I q=>h pins s σ H Q I (w σ H Q q)
theorem tps_of {F:Addr->Hp->V->Prop} (st:Stb F) (he:PE X e (tP F)) (hr:PA X es (tPs F n)) (hs:starEach (e :: es) X.env=(false,eval e X.env) :: starEach es X.env):PA X (e :: es) (tPs F (n + 1)):=fun pos pins s σ H Q I ⟨p,⟨o,ho⟩,q⟩=>
 pa_cons he hr hs pos pins s σ H Q I ⟨p,⟨o,ho⟩,fun v H1 k1 fv=>⟨p,⟨o,k1 _ _ (by simp) ho⟩,fun vs H2 k2 ln all=>q (v :: vs) H2 (k1.trans k2) (by rw [List.length_cons,ln]) fun u hu=>by
  rcases List.mem_cons.mp hu with rfl | hu
  ·exact st p H1 H2 _ k2 fv
  ·exact all u hu⟩⟩
theorem tps_nil:PA X [] (tPs (fTg n) 0):=fun pos pins s σ H Q I ⟨p,_,q⟩=>pa_nil pos pins s σ H Q I (q [] H (Keep.refl _) rfl fun _ h=>absurd h List.not_mem_nil)
theorem trs_nil:PA X [] (tPs fPr 0):=fun pos pins s σ H Q I ⟨p,_,q⟩=>pa_nil pos pins s σ H Q I (q [] H (Keep.refl _) rfl fun _ h=>absurd h List.not_mem_nil)
theorem tps_cons (he:PE X e (tP (fTg n))) (hr:PA X es (tPs (fTg n) m)) (hs:starEach (e :: es) X.env=(false,eval e X.env) :: starEach es X.env:=by rfl):PA X (e :: es) (tPs (fTg n) (m + 1)):=tps_of (stTg n) he hr hs
theorem trs_cons (he:PE X e (tP fPr)) (hr:PA X es (tPs fPr m)) (hs:starEach (e :: es) X.env=(false,eval e X.env) :: starEach es X.env:=by rfl):PA X (e :: es) (tPs fPr (m + 1)):=tps_of stPr he hr hs
theorem tp_c {v:V} (h:sc v) (he:PE X e (tC v)):PE X e (tP (fTg n)):=pe_of he fun σ H Q ⟨p,_,q⟩=>q v H (Keep.refl _) (Tg.of h n)
theorem tp_seq {mk:List V->HO} (hm:∀ us,mk us=.lst us \/ mk us=.tup us) {t:TE} (ht:PE X e t) (hw:∀ σ H Q,tPs (fTg n) m σ H (fun xs H1=>xs.length <= sizeLine/\∀ p,H1 p=none->Q (.ref p) (upd H1 p (mk xs)))->t σ H Q) (l:m < 4):PE X e (tP (fTg (n + 1))):=
 pe_of ht fun σ H Q ⟨p,⟨o,ho⟩,q⟩=>hw σ H Q ⟨p,⟨o,ho⟩,fun vs H1 k1 ln all=>⟨by rw [ln,sizeLine_eq];omega,fun a ha=>by
  have ap:a ≠ p:=Ne.symm (ne_of_none (k1 _ _ (by simp) ho) ha)
  have k2:Keep [] H1 (upd H1 a (mk vs)):=Keep.new ha
  exact q (.ref a) _ (k1.trans k2) (.inr (.inl ⟨a,vs,rfl,ap,(hm vs).imp (fun h=>by rw [h];exact upd_same) (fun h=>by rw [h];exact upd_same),by omega,fun u hu=>stTg n p _ _ u k2 (all u hu)⟩))⟩⟩
theorem tp_lst (h:PA X es (tPs (fTg n) m)) (l:m < 4):PE X (.List es pos) (tP (fTg (n + 1))):=tp_seq (mk:=.lst) (fun _=>.inl rfl) (pe_lst h) (fun _ _ _ h=>h) l
theorem tp_tup {x1} (h:PA X es (tPs (fTg n) m)) (l:m < 4):PE X (.Tuple es x1 pos) (tP (fTg (n + 1))):=tp_seq (mk:=.tup) (fun _=>.inr rfl) (pe_tup h) (fun _ _ _ h=>h) l
theorem tp_up (h:PE X e (tP (fTg (n + 1)))):PE X e (tP (fTp n)):=pe_of h fun σ H Q ⟨p,ho,q⟩=>⟨p,ho,fun v H' k t=>q v H' k (.inl t)⟩
theorem tp_lst3 (h:PA X es (tPs (fTg n) m)) (l:m < 30):PE X (.List es pos) (tP (fTp n)):=
 pe_of (pe_lst h) fun σ H Q ⟨p,⟨o,ho⟩,q⟩=>⟨p,⟨o,ho⟩,fun vs H1 k1 ln all=>⟨by rw [ln,sizeLine_eq];omega,fun a ha=>
  have k2:Keep [] H1 (upd H1 a (.lst vs)):=Keep.new ha
  q (.ref a) _ (k1.trans k2) (.inr (.inl ⟨a,vs,rfl,Ne.symm (ne_of_none (k1 _ _ (by simp) ho) ha),.inl upd_same,by omega,fun u hu=>stTg n p _ _ u k2 (all u hu)⟩))⟩⟩
theorem tp_pair {x1} (h1:PE X e (tP (fTp 1))) (h2:PE X e2 (tP (fTp 2))) (hs:starEach [e,e2] X.env=(false,eval e X.env) :: starEach [e2] X.env:=by rfl) (hs2:starEach [e2] X.env=(false,eval e2 X.env) :: starEach [] X.env:=by rfl):PE X (.Tuple [e,e2] x1 pos) (tP fPr):=
 pe_of (pe_tup (pa_cons h1 (pa_cons h2 pa_nil hs2) hs)) fun σ H Q ⟨p,⟨o,ho⟩,q⟩=>⟨p,⟨o,ho⟩,fun v H1 k1 f1=>⟨p,⟨o,k1 _ _ (by simp) ho⟩,fun u H2 k2 f2=>⟨by show 2 <= sizeLine;decide,fun a ha=>
  have k3:Keep [] H2 (upd H2 a (.tup [v,u])):=Keep.new ha
  q (.ref a) _ ((k1.trans k2).trans k3) ⟨a,v,u,rfl,upd_same,Tp3.on (k2.trans k3) f1,Tp3.on k3 f2⟩⟩⟩⟩
theorem tp_rows (h:PA X es (tPs fPr m)) (l:m < 30):PE X (.List es pos) (tP (fRows m)):=
 pe_of (pe_lst h) fun σ H Q ⟨p,⟨o,ho⟩,q⟩=>⟨p,⟨o,ho⟩,fun vs H1 k1 ln all=>⟨by rw [ln,sizeLine_eq];omega,fun a ha=>
  have k2:Keep [] H1 (upd H1 a (.lst vs)):=Keep.new ha
  q (.ref a) _ (k1.trans k2) ⟨a,vs,rfl,upd_same,ln,fun u hu=>stPr p _ _ u k2 (all u hu)⟩⟩⟩
theorem swB {a b:Expr} {op:Operator} {p:Pos} {t:Option Expr} {k:Nat} {env:Env}:swapsWith (.BinOp a op b p) t k env=pure false:=rfl
theorem ps_setP {i:Nat} {x:Str} {pos' lp:Pos} {te:TE} (hN:X.N.Nodup) (hi:X.N[i]?=some x) (hx:Loc X.env.scope x) (hf:X.fn x=true \/ X.env.scope.names.lookup x=some .local) (h:PE X (.List es lp) te):PS X (.Assign [.Name x pos'] (.List es lp) pos) (tAsg te (gName i)):=ps_set hN hi hx h swL hf
theorem ps_setB {i:Nat} {x:Str} {pos' lp:Pos} {te:TE} {op:Operator} (hN:X.N.Nodup) (hi:X.N[i]?=some x) (hx:Loc X.env.scope x) (hf:X.fn x=true \/ X.env.scope.names.lookup x=some .local) (h:PE X (.BinOp e op e2 lp) te):PS X (.Assign [.Name x pos'] (.BinOp e op e2 lp) pos) (tAsg te (gName i)):=ps_set hN hi hx h swB hf
end
section
variable {P:Program} {w:World} {K:PySem.W.Frag} {mg:Str->Option Value} {base:Heap} {C:Addr}
theorem scLaw:FnScope ["_law_script","_law_cell","_law_source","_law_way","_law_names_here","_law_ties","_law_houses","_law_some","_law_bad"] ["_law_script"] (defScope sLaw):=⟨rfl,rfl,rfl,by decide +kernel,rfl,by decide +kernel,by decide +kernel⟩
def spLaw (K:PySem.W.Frag):Sp:=fun vs H Q _=>∃ (a:Addr) (ns:List Int),vs=[.ref a]/\SqL K H a (ns.map V.int)/\ns.length <= 63/\∀ H',Q (.bl true) H'
theorem lawBody {f:Addr} (CD:Cal P w K mg base CX0 1 "_law_digits" ["_law_cell"] spDigits) (CN:Cal P w K mg base CX0 2 "_law_next" ["_law_source","_law_many"] spNext) (CTR:Cal P w K mg base CX0 5 "_law_tree" ["_law_source","_law_most"] spTree) (CTU:Cal P w K mg base CX0 3 "_law_turned" ["_law_source","_law_things"] spTurned)
  (CTO:Cal P w K mg base CX0 5 "_law_ties_otherwise" ["_law_source","_law_names_here","_law_ties"] spTO) (CHO:Cal P w K mg base CX0 4 "_law_houses_otherwise" ["_law_source","_law_houses"] spHO) (CRi:CalG P w K mg base 8 "_law_right" ["_law_houses","_law_ties"] (spRi K)) (b_all:Blt mg "all") {A:Around} {outer:List Env} {s0:Shared} {cdv:Value} {H:Hp} {vs:List V} {Q:VK} {E:XK} (hgd:(A.deeper (PyProof.Rows.envOfC "law" (defScope sLaw) s0.heap.objs.size f cdv)).guards=some []) (hr:Room 8 (A.deeper (PyProof.Rows.envOfC "law" (defScope sLaw) s0.heap.objs.size f cdv))) (h:spLaw K vs H Q E) :
  ∃ t,PSs (cxOf CX0 P w K mg base ["_law_script","_law_cell","_law_source","_law_way","_law_names_here","_law_ties","_law_houses","_law_some","_law_bad"] "law" (defScope sLaw) f cdv A outer s0 H E).nox (defBody sLaw) t/\t { nx:=fun _ H'=>Q .non H',rt:=Q } (start ["_law_script","_law_cell","_law_source","_law_way","_law_names_here","_law_ties","_law_houses","_law_some","_law_bad"] vs) H:=by
 obtain ⟨a,ns,rfl,hS,hlen,fin⟩:=h
 have hr1:Room 1 _:=hr.mono (by decide)
 have hr2:Room 2 _:=hr.mono (by decide)
 have hr3:Room 3 _:=hr.mono (by decide)
 have hr4:Room 4 _:=hr.mono (by decide)
 have hr5:Room 5 _:=hr.mono (by decide)
 have hr8:Room 8 _:=hr
 refine ⟨_,(@pss_cons _ _ _ _ _ (ps_for PassesOwn.never rfl (pi_list (pe_slice sl_list (pv 0) po_none (po_some pe_int))) (pg_name (i:=1) scLaw.nd rfl (Or.inl rfl)) (pss_cons (ps_set (i:=2) scLaw.nd rfl (Or.inl rfl) (pe_cal CD hr1 (pa_cons (pv 1) pa_nil)))
   (pss_cons (ps_set (i:=3) scLaw.nd rfl (Or.inl rfl) (pe_cal CN hr2 (pa_cons (pv 2) (pa_cons pe_int pa_nil))))
   (pss_cons (ps_asg (pe_cal CTR hr5 (pa_cons (pv 2) (pa_cons pe_int pa_nil))) (pg_tup rfl (pgs_cons (pg_name (i:=4) scLaw.nd rfl (Or.inl rfl)) (pgs_cons (pg_name (i:=5) scLaw.nd rfl (Or.inl rfl)) pgs_nil))))
   (pss_cons (ps_set (i:=6) scLaw.nd rfl (Or.inl rfl) (pe_cal CTU hr3 (pa_cons (pv 2) (pa_cons (pv 4) pa_nil))))
   (pss_cons (ps_set (i:=7) scLaw.nd rfl (Or.inl rfl) (pv 5))
   (pss_cons (ps_if (PW.pt (pw_or (pt_cmpR op_lt (pv 3) pe_int (nomark _)) (pw_or1 (pt_cmpR op_eq (pv 3) pe_int (nomark _))))) (pss_one (ps_set (i:=7) scLaw.nd rfl (Or.inl rfl) (pe_cal CTO hr5 (pa_cons (pv 2) (pa_cons (pv 4) (pa_cons (pv 5) pa_nil)))))) pss_nil)
   (pss_cons (ps_set (i:=8) scLaw.nd rfl (Or.inl rfl) (pv 6))
   (pss_cons (ps_if (pt_cmpR op_gt (pv 3) pe_int (nomark _)) (pss_one (ps_set (i:=8) scLaw.nd rfl (Or.inl rfl) (pe_cal CHO hr4 (pa_cons (pv 2) (pa_cons (pv 6) pa_nil))))) pss_nil)
   (pss_one (ps_if (PW.pt (pw_or (pt_not (pt_val (pe_calG CRi hgd hr8 (pa_cons (pv 8) (pa_cons (pv 7) pa_nil))))) (pw_or1 (pt_not (pt_val (pe_calG CRi hgd hr8 (pa_cons (pv 6) (pa_cons (pv 5) pa_nil)))))))) (pss_one (ps_ret pe_bl)) pss_nil)))))))))))
   (@pss_cons _ _ _ _ _ (@ps_setP _ _ _ 7 _ _ _ _ scLaw.nd rfl (Or.inl rfl) (Or.inl rfl) (@tp_rows _ _ _ _ (@trs_cons _ _ _ _ (@tp_pair _ _ _ _ _ (@tp_up _ _ _ (@tp_lst _ _ _ _ _ (@tps_nil _ _) (by decide))) (@tp_up _ _ _ (@tp_lst _ _ _ _ _ (@tps_nil _ _) (by decide))) rfl rfl) (@trs_cons _ _ _ _ (@tp_pair _ _ _ _ _ (@tp_up _ _ _ (@tp_lst _ _ _ _ _ (@tps_cons _ _ _ _ _ (@tp_c _ _ _ _ (sc_let (by decide +kernel)) (@pe_str _ _ _ _)) (@tps_nil _ _) rfl) (by decide))) (@tp_up _ _ _ (@tp_lst _ _ _ _ _ (@tps_nil _ _) (by decide))) rfl rfl) (@trs_cons _ _ _ _ (@tp_pair _ _ _ _ _ (@tp_up _ _ _ (@tp_lst _ _ _ _ _ (@tps_cons _ _ _ _ _ (@tp_c _ _ _ _ (sc_let (by decide +kernel)) (@pe_str _ _ _ _)) (@tps_cons _ _ _ _ _ (@tp_c _ _ _ _ (sc_let (by decide +kernel)) (@pe_str _ _ _ _)) (@tps_nil _ _) rfl) rfl) (by decide))) (@tp_up _ _ _ (@tp_lst _ _ _ _ _ (@tps_nil _ _) (by decide))) rfl rfl) (@trs_cons _ _ _ _ (@tp_pair _ _ _ _ _ (@tp_up _ _ _ (@tp_lst _ _ _ _ _ (@tps_cons _ _ _ _ _ (@tp_c _ _ _ _ (sc_let (by decide +kernel)) (@pe_str _ _ _ _)) (@tps_nil _ _) rfl) (by decide))) (@tp_up _ _ _ (@tp_lst _ _ _ _ _ (@tps_cons _ _ _ _ _ (@tp_tup _ _ _ _ _ _ (@tps_cons _ _ _ _ _ (@tp_c _ _ _ _ (sc_let (by decide +kernel)) (@pe_str _ _ _ _)) (@tps_cons _ _ _ _ _ (@tp_c _ _ _ _ (sc_let (by decide +kernel)) (@pe_str _ _ _ _)) (@tps_nil _ _) rfl) rfl) (by decide)) (@tps_nil _ _) rfl) (by decide))) rfl rfl) (@trs_cons _ _ _ _ (@tp_pair _ _ _ _ _ (@tp_up _ _ _ (@tp_tup _ _ _ _ _ _ (@tps_cons _ _ _ _ _ (@tp_c _ _ _ _ (sc_let (by decide +kernel)) (@pe_str _ _ _ _)) (@tps_nil _ _) rfl) (by decide))) (@tp_up _ _ _ (@tp_lst _ _ _ _ _ (@tps_nil _ _) (by decide))) rfl rfl) (@trs_cons _ _ _ _ (@tp_pair _ _ _ _ _ (@tp_up _ _ _ (@tp_lst _ _ _ _ _ (@tps_cons _ _ _ _ _ (@tp_c _ _ _ _ (sc_let (by decide +kernel)) (@pe_str _ _ _ _)) (@tps_nil _ _) rfl) (by decide))) (@tp_up _ _ _ (@tp_tup _ _ _ _ _ _ (@tps_nil _ _) (by decide))) rfl rfl) (@trs_cons _ _ _ _ (@tp_pair _ _ _ _ _ (@tp_up _ _ _ (@tp_c _ _ _ _ (sc_let (by decide +kernel)) (@pe_str _ _ _ _))) (@tp_up _ _ _ (@tp_lst _ _ _ _ _ (@tps_nil _ _) (by decide))) rfl rfl) (@trs_nil _) rfl) rfl) rfl) rfl) rfl) rfl) rfl) (by decide)))
   (@pss_cons _ _ _ _ _ (@ps_setB _ _ _ _ 7 _ _ _ _ _ scLaw.nd rfl (Or.inl rfl) (Or.inl rfl) (@pe_op _ _ _ _ _ _ _ _ op_cat (pv 7) (@tp_rows _ _ _ _ (@trs_cons _ _ _ _ (@tp_pair _ _ _ _ _ (@tp_up _ _ _ (@tp_lst _ _ _ _ _ (@tps_cons _ _ _ _ _ (@tp_c _ _ _ _ (sc_let (by decide +kernel)) (@pe_str _ _ _ _)) (@tps_cons _ _ _ _ _ (@tp_c _ _ _ _ (sc_let (by decide +kernel)) (@pe_str _ _ _ _)) (@tps_nil _ _) rfl) rfl) (by decide))) (@tp_up _ _ _ (@tp_lst _ _ _ _ _ (@tps_cons _ _ _ _ _ (@tp_lst _ _ _ _ _ (@tps_cons _ _ _ _ _ (@tp_c _ _ _ _ (sc_let (by decide +kernel)) (@pe_str _ _ _ _)) (@tps_cons _ _ _ _ _ (@tp_c _ _ _ _ (sc_let (by decide +kernel)) (@pe_str _ _ _ _)) (@tps_nil _ _) rfl) rfl) (by decide)) (@tps_nil _ _) rfl) (by decide))) rfl rfl) (@trs_cons _ _ _ _ (@tp_pair _ _ _ _ _ (@tp_lst3 _ _ _ _ _ (@tps_cons _ _ _ _ _ (@tp_c _ _ _ _ (sc_let (by decide +kernel)) (@pe_str _ _ _ _)) (@tps_cons _ _ _ _ _ (@tp_c _ _ _ _ (sc_let (by decide +kernel)) (@pe_str _ _ _ _)) (@tps_cons _ _ _ _ _ (@tp_c _ _ _ _ (sc_let (by decide +kernel)) (@pe_str _ _ _ _)) (@tps_cons _ _ _ _ _ (@tp_c _ _ _ _ (sc_let (by decide +kernel)) (@pe_str _ _ _ _)) (@tps_nil _ _) rfl) rfl) rfl) rfl) (by decide)) (@tp_up _ _ _ (@tp_lst _ _ _ _ _ (@tps_cons _ _ _ _ _ (@tp_tup _ _ _ _ _ _ (@tps_cons _ _ _ _ _ (@tp_c _ _ _ _ (sc_let (by decide +kernel)) (@pe_str _ _ _ _)) (@tps_cons _ _ _ _ _ (@tp_c _ _ _ _ (sc_let (by decide +kernel)) (@pe_str _ _ _ _)) (@tps_nil _ _) rfl) rfl) (by decide)) (@tps_cons _ _ _ _ _ (@tp_tup _ _ _ _ _ _ (@tps_cons _ _ _ _ _ (@tp_c _ _ _ _ (sc_let (by decide +kernel)) (@pe_str _ _ _ _)) (@tps_cons _ _ _ _ _ (@tp_c _ _ _ _ (sc_let (by decide +kernel)) (@pe_str _ _ _ _)) (@tps_nil _ _) rfl) rfl) (by decide)) (@tps_cons _ _ _ _ _ (@tp_tup _ _ _ _ _ _ (@tps_cons _ _ _ _ _ (@tp_c _ _ _ _ (sc_let (by decide +kernel)) (@pe_str _ _ _ _)) (@tps_cons _ _ _ _ _ (@tp_c _ _ _ _ (sc_let (by decide +kernel)) (@pe_str _ _ _ _)) (@tps_nil _ _) rfl) rfl) (by decide)) (@tps_nil _ _) rfl) rfl) rfl) (by decide))) rfl rfl) (@trs_nil _) rfl) rfl) (by decide))))
   (pss_one (ps_ret (pe_blt (call_all rfl) b_all bo_all (pa_cons (pe_lc2 (N:=["_law_script","_law_cell","_law_source","_law_way","_law_names_here","_law_ties","_law_houses","_law_some","_law_bad"]) (sc:=defScope sLaw) (ix:=[]) (by decide +kernel) (pi_list (pv 7)) (fun _ _ _ _=>pts_nil) (fun _ _ _ _=>(pe_calG CRi hgd hr8 (pa_cons (pv 0) (pa_cons (pv 1) pa_nil))))) pa_nil))))))),?_⟩
 obtain ⟨ms,hms,lms⟩:=cut_ints ns none (some 20)
 refine ⟨_,rfl,20,rfl,a,_,rfl,hS,fun sl hsl=>?_⟩
 rw [hms]
 have hs1:upd H sl (.lst (ms.map V.int)) sl=some (.lst (ms.map V.int)):=upd_same
 generalize upd H sl (.lst (ms.map V.int))=H1 at hs1
 refine ⟨sl,rfl,⟨_,.of hs1⟩,for_list (K:=K) (a:=sl) (xs:=ms.map V.int) (fun _ σ H2=>∃ (v1 v2 v3 v4 v5 v6 v7 v8:Option V),σ=[some (.ref a),v1,v2,v3,v4,v5,v6,v7,v8]/\Keep [] H1 H2) ⟨_,_,_,_,_,_,_,_,rfl,Keep.refl _⟩ (fun _ _ _ _ ⟨_,_,_,_,_,_,_,_,_,k⟩=>.of (k _ _ (by simp) hs1)) ?_ ?_⟩
 ·rintro i y σ H2 hi ⟨v1,v2,v3,v4,v5,v6,v7,v8,rfl,k12⟩
  rw [List.getElem?_map] at hi
  cases en:ms[i]? with
  | none=>rw [en] at hi;cases hi
  | some cell=>
  rw [en] at hi
  have ec:V.int cell=y:=Option.some.inj hi
  subst ec
  refine ⟨_,rfl,cell,rfl,fun s b c e hs=>?_⟩
  have k3:Keep [] H2 (upd H2 s (.lst [.int b,.int c,.int e])):=Keep.new hs
  have p3:upd H2 s (.lst [.int b,.int c,.int e]) s=some (.lst [.int b,.int c,.int e]):=upd_same
  generalize upd H2 s (.lst [.int b,.int c,.int e])=H3 at k3 p3
  refine ⟨_,rfl,s,b,c,e,8,rfl,p3,by decide,by decide,fun way a3 c3 w0 w1=>?_⟩
  have k33:Keep [s] H3 (upd H3 s (.lst [.int a3,.int c,.int c3])):=Keep.at (by simp)
  have s3:Src (upd H3 s (.lst [.int a3,.int c,.int c3])) s:=⟨_,_,_,upd_same⟩
  generalize upd H3 s (.lst [.int a3,.int c,.int c3])=H3' at k33 s3
  refine ⟨_,rfl,s,11,rfl,s3,by decide,by decide,fun t nh th zs ps H4 ht hnh hth et enh ⟨qs,eth,hq⟩ gz nd l1 l2 lp tz cn gr k4 s4=>?_⟩
  have sn:nh ≠ s:=s3.ne hnh
  have st:th ≠ s:=s3.ne hth
  refine ⟨t,_,rfl,.of et,rfl,_,_,rfl,_,_,rfl,rfl,?_⟩
  have lq:=paired_len hq
  rw [List.length_map] at lq
  have zne:zs ≠ []:=fun e=>by rw [e] at l1;cases l1
  have gp:∀ q ∈ ps,GoodN q.1/\GoodN q.2:=fun q hq=>⟨gz _ (tz q hq).1,gz _ (tz q hq).2.1⟩
  refine ⟨_,rfl,_,rfl,s,nh,_,rfl,s4,enh,by rw [List.length_map];omega,sn,fun h0 kk bb H5 hh0 e0 k5 s5=>?_⟩
  rw [<- turn_map] at e0
  have n0:h0 ≠ s:=s4.ne hh0
  have pm:=turn_perm kk bb zs
  have gz':∀ z ∈ turn kk bb zs,GoodN z:=fun z hz=>gz z (pm.mem_iff.mp hz)
  have lz':=pm.length_eq
  have zne':turn kk bb zs ≠ []:=fun e=>by rw [e] at lz';simp at lz';omega
  generalize turn kk bb zs=zs' at e0 gz' lz' zne'
  have eth5:=k5 _ _ (by simp [st]) eth
  have enh5:=k5 _ _ (by simp [sn]) enh
  have hq5:Paired (fun q r=>H5 q=some (.tup r)) qs (ps.map pairV):=by
   obtain ⟨x,y,z,hz⟩:=s4
   exact paired_far k5 (fun x hx xs e=>by rw [List.mem_singleton.mp hx,hz] at e;cases e) hq
  have kA:Keep [s] H3 H5:=(k33.trans k4).trans k5
  have k25:Keep [] H2 H5:=((k3.mono (by simp)).trans kA).drop hs
  have tgH:∀ (H':Hp),Keep [s] H5 H'->Tp3 H' s 1 (.ref h0):=fun H' k=>.inr (.inl ⟨h0,_,rfl,n0,.inl (k _ _ (by simp [n0]) e0),by rw [List.length_map];omega,fun u hu=>by
   obtain ⟨z,hz,rfl⟩:=List.mem_map.mp hu
   exact Tg.of (good_sc (gz' z hz)) 1⟩)
  have tgT:∀ (H':Hp),Keep [s] H5 H'->Tp3 H' s 2 (.ref th):=fun H' k=>.inr (.inl ⟨th,_,rfl,st,.inl (k _ _ (by simp [st]) eth5),by rw [List.length_map];omega,fun u hu=>by
   obtain ⟨x,y,z,hz⟩:=s5
   exact Tg.keep k (Tg.mono (by decide) (rows_tg (th:=th) hz hq5 gp u hu))⟩)
  refine ⟨_,rfl,?_⟩
  refine nm_skip ?_
  refine nx_seq ?_
  refine seq_by (fun σ' H'=>∃ (v:V),σ'=[some (.ref a),some (.int cell),some (.ref s),some (.int way),some (.ref nh),some (.ref th),some (.ref h0),some v,v8]/\Tp3 H' s 2 v/\Src H' s/\Keep [s] H5 H') ?_ ?_
  case _=>
   rintro σ' H6 ⟨v,rfl,tv,s6,k6⟩
   refine ⟨_,rfl,?_⟩
   refine nm_skip ?_
   refine nx_seq ?_
   refine seq_by (fun σ' H'=>∃ (u:V),σ'=[some (.ref a),some (.int cell),some (.ref s),some (.int way),some (.ref nh),some (.ref th),some (.ref h0),some v,some u]/\Tp3 H' s 1 u/\Tp3 H' s 2 v/\Src H' s/\Keep [s] H5 H') ?_ ?_
   case _=>
    rintro σ' H7 ⟨u,rfl,tu,tv,s7,k7⟩
    refine ⟨_,rfl,_,rfl,u,v,rfl,Dp.down tu.dp,Dp.down tv.dp,tu.show (by decide),tv.show (by decide),fun H8 k8=>?_⟩
    refine ⟨true,rfl,?_⟩
    have k58:=k7.trans (k8.mono (by simp))
    have a1:=tgH H8 k58
    have a2:=tgT H8 k58
    refine ⟨_,rfl,_,rfl,_,_,rfl,Dp.down a1.dp,Dp.down a2.dp,a1.show (by decide),a2.show (by decide),fun H9 k9=>?_⟩
    refine ⟨true,rfl,?_⟩
    have k29:Keep [s] H2 H9:=(k25.mono (by simp)).trans (k58.trans (k9.mono (by simp)))
    exact ⟨_,_,_,_,_,_,_,_,rfl,k12.trans (k29.drop hs)⟩
   case _=>
    intro nx hnx
    refine ⟨_,rfl,_,_,rfl,rfl,_,rfl,ite2 (fun e=>?_) (fun e=>?_)⟩
    ·refine ⟨_,rfl,_,rfl,s,h0,zs',rfl,s6,k6 _ _ (by simp [n0]) e0,gz',zne',by omega,fun u H7 tu s7 k7=>?_⟩
     exact hnx _ _ ⟨u,rfl,tu,Tp3.far k7 tv,s7,k6.trans k7⟩
    ·exact hnx _ _ ⟨.ref h0,rfl,tgH H6 k6,tv,s6,k6⟩
  case _=>
   intro nx hnx
   refine ⟨_,rfl,_,_,rfl,rfl,_,rfl,ite2 (fun e=>ifT rfl ?_) (fun e=>⟨_,rfl,rfl,_,rfl,ite2 (fun e=>?_) (fun e=>?_)⟩)⟩
   ·exact ⟨_,rfl,_,rfl,_,rfl,s,nh,th,zs,qs,ps,rfl,s5,enh5,gz,zne,by omega,eth5,st,hq5,gp,by omega,fun v H6 tv s6 k6=>hnx _ _ ⟨v,rfl,tv,s6,k6⟩⟩
   ·exact ⟨_,rfl,_,rfl,_,rfl,s,nh,th,zs,qs,ps,rfl,s5,enh5,gz,zne,by omega,eth5,st,hq5,gp,by omega,fun v H6 tv s6 k6=>hnx _ _ ⟨v,rfl,tv,s6,k6⟩⟩
   ·exact hnx _ _ ⟨.ref th,rfl,tgT H5 (Keep.refl _),s5,Keep.refl _⟩
 rintro σ H2 ⟨v1,v2,v3,v4,v5,v6,v7,v8,rfl,k12⟩
 refine ⟨sl,⟨_,k12 _ _ (by simp) hs1⟩,?_⟩
 rintro _ H3 k3 ⟨l1,vs1,rfl,hl1,ln1,al1⟩
 refine ⟨_,rfl,sl,⟨_,(k12.trans k3) _ _ (by simp) hs1⟩,?_⟩
 rintro _ H4 k4 ⟨l2,vs2,rfl,hl2,ln2,al2⟩
 refine ⟨l1,l2,_,_,rfl,rfl,k4 _ _ (by simp) hl1,hl2,by rw [ln1,ln2];decide,fun l3 h3=>?_⟩
 have al:∀ (H':Hp),Keep [] H4 H'->∀ u ∈ vs1 ++ vs2,fPr sl H' u:=fun H' k u hu=>(List.mem_append.mp hu).elim (fun h=>stPr _ _ _ u (k4.trans k) (al1 u h)) (fun h=>stPr _ _ _ u k (al2 u h))
 have ln:(vs1 ++ vs2).length=9:=by rw [List.length_append,ln1,ln2]
 generalize vs1 ++ vs2=ws at al ln
 have k5:Keep [] H4 (upd H4 l3 (.lst ws)):=Keep.new h3
 have e3:upd H4 l3 (.lst ws) l3=some (.lst ws):=upd_same
 generalize upd H4 l3 (.lst ws)=H5 at k5 e3
 refine ⟨_,rfl,l3,rfl,⟨_,.of e3⟩,fun acc hacc=>?_⟩
 have la:l3 ≠ acc:=ne_of_none e3 hacc
 refine lc_list0 (K:=K) (a:=l3) (its:=ws) (by rw [ln,sizeLine_eq];decide) (fun i ys τ H6=>∃ (a b:Option V),τ=[a,b]/\ys=(List.replicate i true).map V.bl/\Keep [acc] H5 H6/\H6 acc=some (.lst ys)) ?_ ?_ ?_ ?_
 ·exact ⟨_,_,rfl,rfl,Keep.at (by simp),upd_same⟩
 ·rintro i ys τ H6 ⟨x,y,rfl,rfl,kp,h6⟩
  exact ⟨h6,by rw [List.length_map,List.length_replicate];exact Nat.le_refl _,.of (kp _ _ (by simp [la]) e3)⟩
 ·rintro i ys τ H6 x hx ⟨a1,b1,rfl,rfl,kp,h6⟩
  obtain ⟨t,hv,tv,rfl,ht,th,tt⟩:=al H6 (k5.trans (kp.drop hacc)) x (List.mem_of_getElem? hx)
  refine ⟨t,_,rfl,.of ht,rfl,_,_,rfl,_,_,rfl,rfl,?_⟩
  refine ⟨_,rfl,_,rfl,hv,tv,rfl,Dp.down th.dp,Dp.down tt.dp,th.show (by decide),tt.show (by decide),fun H7 k7=>?_⟩
  refine ⟨k7 _ _ (by simp) h6,_,_,rfl,?_,(kp.trans (k7.mono (by simp))).trans (Keep.at (by simp)),upd_same⟩
  rw [List.replicate_succ',List.map_append];rfl
 ·rintro ys τ H6 ⟨x,y,rfl,rfl,kp,h6⟩
  refine ⟨acc,_,rfl,.of h6,?_⟩
  have e:(List.replicate ws.length true).all id=true:=by rw [List.all_replicate];split <;> rfl
  rw [e]
  exact fin H6
theorem okLaw {f:Addr} {fd:FuncData} (G:Fun K "law" "law" sLaw f fd) (CD:Cal P w K mg base CX0 1 "_law_digits" ["_law_cell"] spDigits) (CN:Cal P w K mg base CX0 2 "_law_next" ["_law_source","_law_many"] spNext) (CTR:Cal P w K mg base CX0 5 "_law_tree" ["_law_source","_law_most"] spTree) (CTU:Cal P w K mg base CX0 3 "_law_turned" ["_law_source","_law_things"] spTurned)
  (CTO:Cal P w K mg base CX0 5 "_law_ties_otherwise" ["_law_source","_law_names_here","_law_ties"] spTO) (CHO:Cal P w K mg base CX0 4 "_law_houses_otherwise" ["_law_source","_law_houses"] spHO) (CRi:CalG P w K mg base 8 "_law_right" ["_law_houses","_law_ties"] (spRi K)) (b_all:Blt mg "all") :
  LawOk P w K mg base 9 f fd ["_law_script"] (spLaw K):=by
 refine G.okL scLaw (fun vs H Q E h=>by obtain ⟨a,ns,rfl,_⟩:=h;rfl) (fun cdv outer s0 H vs Q E hr h=>lawBody CD CN CTR CTU CTO CHO CRi b_all rfl hr h)
end
end K03
section
open PySem PySem.W PyProof.Rows
set_option maxHeartbeats 0
noncomputable section
namespace HD
open PySem PySem.W L2
variable (P:Params)
def tp (i:Nat):Stmt:=PySem.Challenge.pw_treeright_k03_what_is_no_tree.main.body.getD i (.Pass ⟨0,0,0,0⟩)
def ic (i j:Nat):Stmt:=inClass (tp i) j
abbrev N:=@BT.node
abbrev L:=BT.nil
def en (P:Params) (k:Str) (t:Nat) (v:Value):DictEntry:=⟨PyData.keyHash P k,.str k t,v⟩
noncomputable def h0 (a0:Str) (a1:Str) (a2:Stmt):Obj:=⟨.none,none,(Data.func ⟨a0,a1,(defArgs a2),(FuncBody.stmts (defBody a2)),(defScope a2),0,[],.none,.none,.none,.none,none,.none,.none,0⟩),#[]⟩
noncomputable def o0:Obj:=h0 "are_houses" "are_houses" (tp 22)
noncomputable def o2:Obj:=h0 "road" "Tree.road" (ic 27 4)
noncomputable def o7:Obj:=h0 "_law_tree" "_law_tree" (tp 36)
noncomputable def o10:Obj:=h0 "_law_right" "_law_right" (tp 44)
noncomputable def o14:Obj:=h0 "tied_to_each" "tied_to_each" (tp 25)
noncomputable def o18:Obj:=h0 "_law_houses_otherwise" "_law_houses_otherwise" (tp 41)
noncomputable def o20:Obj:=h0 "_law_made" "_law_made" (tp 43)
noncomputable def o25:Obj:=h0 "ties" "Tree.ties" (ic 27 2)
noncomputable def o43:Obj:=h0 "steps_toward" "steps_toward" (tp 26)
noncomputable def o48:Obj:=h0 "_law_turned" "_law_turned" (tp 34)
noncomputable def o60:Obj:=h0 "neighbours" "Tree.neighbours" (ic 27 3)
noncomputable def o83:Obj:=h0 "is_tie" "is_tie" (tp 23)
noncomputable def o104:Obj:=h0 "_law_odd_name" "_law_odd_name" (tp 39)
noncomputable def o107:Obj:=h0 "__init__" "Tree.__init__" (ic 27 0)
noncomputable def o115:Obj:=h0 "are_unlike" "are_unlike" (tp 21)
noncomputable def o121:Obj:=h0 "are_ties" "are_ties" (tp 24)
noncomputable def o122:Obj:=h0 "_law_odd_tie" "_law_odd_tie" (tp 40)
noncomputable def o123:Obj:=h0 "law" "law" (tp 45)
noncomputable def o131:Obj:=h0 "_law_digits" "_law_digits" (tp 30)
noncomputable def o134:Obj:=h0 "_law_mixed" "_law_mixed" (tp 29)
noncomputable def o136:Obj:=h0 "_law_word" "_law_word" (tp 32)
noncomputable def o145:Obj:=h0 "is_one_of" "is_one_of" (tp 19)
noncomputable def o157:Obj:=h0 "check_house" "Tree.check_house" (ic 27 6)
noncomputable def o158:Obj:=h0 "is_name" "is_name" (tp 18)
noncomputable def o177:Obj:=h0 "_law_is_tree" "_law_is_tree" (tp 38)
noncomputable def o195:Obj:=h0 "_law_ties_otherwise" "_law_ties_otherwise" (tp 42)
noncomputable def o210:Obj:=h0 "_law_is_name" "_law_is_name" (tp 37)
noncomputable def o213:Obj:=h0 "without" "Tree.without" (ic 27 5)
noncomputable def o229:Obj:=h0 "__init__" "NoText.__init__" (ic 13 0)
noncomputable def o245:Obj:=h0 "_law_names" "_law_names" (tp 33)
noncomputable def o248:Obj:=h0 "_law_shuffled" "_law_shuffled" (tp 35)
noncomputable def o258:Obj:=h0 "houses" "Tree.houses" (ic 27 1)
noncomputable def o270:Obj:=h0 "are_names" "are_names" (tp 20)
noncomputable def o275:Obj:=h0 "_law_next" "_law_next" (tp 31)
noncomputable def o285:Obj:=h0 "_wall" "_wall" (tp 0)
noncomputable def o1:Obj:=⟨(.type "tuple"),none,(Data.seq #[] 0),#[]⟩
noncomputable def o3:Obj:=⟨.none,none,(Data.fields #[]),#[]⟩
noncomputable def o4:Obj:=⟨.none,none,(Data.fields #[(.int 1 0),(.int 0 0),(.ref 20),(.int 5 0),(.int 0 0),(.ref 27),(.int 7 0),(.int 0 0),(.ref 40)]),#[]⟩
noncomputable def h1 (a0:Nat):Obj:=⟨(.type "super"),none,(Data.fields #[(.ref a0),(.ref a0),(.ref a0)]),#[]⟩
noncomputable def o5:Obj:=h1 140
noncomputable def o30:Obj:=h1 171
noncomputable def o64:Obj:=h1 297
noncomputable def o102:Obj:=h1 68
noncomputable def o110:Obj:=h1 183
noncomputable def o139:Obj:=h1 92
noncomputable def o154:Obj:=h1 80
noncomputable def o227:Obj:=h1 56
noncomputable def o230:Obj:=h1 116
noncomputable def o233:Obj:=h1 31
noncomputable def o243:Obj:=h1 104
noncomputable def o267:Obj:=h1 152
noncomputable def o268:Obj:=h1 128
noncomputable def o278:Obj:=h1 44
noncomputable def o6:Obj:=⟨(.type "dict"),none,(Data.dict #[en P "__name__" 165 (.str "treeright.trees" 415),en P "__doc__" 166 .none,en P "__package__" 167 .none,en P "__loader__" 168 (.builtin "__main__.__loader__#opaque"),en P "__spec__" 169 .none,en P "__annotations__" 170 (.ref 6),en P "__builtins__" 171 (.ref 4),en P "__file__" 173 (.str "/claim/cut.py" 172),en P "__cached__" 174 .none,en P "_wall" 193 (.ref 21),en P "TreeError" 213 (.ref 31),en P "NoTree" 229 (.ref 44),en P "NoHouse" 245 (.ref 56),en P "NoSeat" 261 (.ref 68),en P "NoAsker" 277 (.ref 80),en P "NoLetter" 293 (.ref 92),en P "NoRight" 309 (.ref 104),en P "NoRow" 325 (.ref 116),en P "NoTie" 341 (.ref 128),en P "Down" 357 (.ref 140),en P "NoMend" 373 (.ref 152),en P "NoText" 398 (.ref 171),en P "NoLine" 414 (.ref 183),en P "LETTERS" 418 (.str "abcdefghijklmnopqrstuvwxyz" 417),en P "LONGEST_NAME" 420 (.int 8 419),en P "is_name" 426 (.ref 190),en P "is_one_of" 434 (.ref 197),en P "are_names" 440 (.ref 202),en P "are_unlike" 447 (.ref 209),en P "are_houses" 454 (.ref 216)] 30),#[]⟩
noncomputable def o8:Obj:=⟨(.type "dict"),none,(Data.dict #[en P "__name__" 165 (.str "treeright.errors" 194),en P "__doc__" 166 .none,en P "__package__" 167 .none,en P "__loader__" 168 (.builtin "__main__.__loader__#opaque"),en P "__spec__" 169 .none,en P "__annotations__" 170 (.ref 6),en P "__builtins__" 171 (.ref 4),en P "__file__" 173 (.str "/claim/cut.py" 172),en P "__cached__" 174 .none,en P "_wall" 193 (.ref 21),en P "TreeError" 213 (.ref 31),en P "NoTree" 229 (.ref 44),en P "NoHouse" 245 (.ref 56),en P "NoSeat" 261 (.ref 68),en P "NoAsker" 277 (.ref 80),en P "NoLetter" 293 (.ref 92)] 16),#[]⟩
noncomputable def o9:Obj:=⟨(.type "type"),none,(Data.cls ⟨"TreeError",[(.type "ValueError")],[(.ref 31),(.type "ValueError"),(.type "Exception"),(.type "BaseException"),(.type "object")],30,"TreeError",true,[],[(.ref 44),(.ref 56),(.ref 68),(.ref 80),(.ref 92),(.ref 104),(.ref 116)],false,none,false⟩),#[(some (.ref 22)),none,(some (.str "TreeError" 196)),(some (.str "TreeError" 204)),(some (.builtin "ValueError.__new__")),(some (.bool true))]⟩
noncomputable def o11:Obj:=⟨.none,none,(Data.fields #[(.int 1 0),(.int 0 0),(.ref 20),(.int 5 0),(.int 0 0),(.ref 27)]),#[]⟩
noncomputable def h2 (a0:Str) (a1:Nat) (a2:Nat) (a3:Nat) (a4:Nat) (a5:Nat):Obj:=⟨(.type "type"),none,(Data.cls ⟨a0,[(.ref 31)],[(.ref a1),(.ref 31),(.type "ValueError"),(.type "Exception"),(.type "BaseException"),(.type "object")],a2,a0,true,[],[],false,none,false⟩),#[(some (.ref a3)),none,(some (.str a0 a4)),(some (.str a0 a5)),(some (.builtin "ValueError.__new__")),(some (.bool true))]⟩
noncomputable def o12:Obj:=h2 "NoRight" 104 103 95 294 302
noncomputable def o13:Obj:=h2 "NoTree" 44 43 35 214 222
noncomputable def o24:Obj:=h2 "NoMend" 152 151 143 358 366
noncomputable def o42:Obj:=h2 "NoRow" 116 115 107 310 318
noncomputable def o52:Obj:=h2 "NoText" 171 170 155 374 382
noncomputable def o81:Obj:=h2 "Down" 140 139 131 342 350
noncomputable def o171:Obj:=h2 "NoLine" 183 182 174 399 407
noncomputable def o193:Obj:=h2 "NoTie" 128 127 119 326 334
noncomputable def o205:Obj:=h2 "NoAsker" 80 79 71 262 270
noncomputable def o228:Obj:=h2 "NoLetter" 92 91 83 278 286
noncomputable def o252:Obj:=h2 "NoHouse" 56 55 47 230 238
noncomputable def o255:Obj:=h2 "NoSeat" 68 67 59 246 254
noncomputable def o15:Obj:=⟨.none,none,(Data.fields #[(.int 1 0),(.int 0 0),(.ref 20),(.int 5 0),(.int 0 0),(.ref 27),(.int 7 0),(.int 0 0),(.ref 40),(.int 9 0),(.int 0 0),(.ref 52),(.int 11 0),(.int 0 0),(.ref 64),(.int 13 0),(.int 0 0),(.ref 76),(.int 15 0),(.int 0 0),(.ref 88),(.int 17 0),(.int 0 0),(.ref 100),(.int 19 0),(.int 0 0),(.ref 112),(.int 21 0),(.int 0 0),(.ref 124),(.int 23 0),(.int 0 0),(.ref 136),(.int 25 0),(.int 0 0),(.ref 148),(.int 27 0),(.int 0 0),(.ref 160),(.int 32 0),(.int 0 0),(.ref 179),(.int 37 0),(.int 0 0),(.ref 189),(.int 41 0),(.int 0 0),(.ref 196),(.int 43 0),(.int 0 0),(.ref 201),(.int 45 0),(.int 0 0),(.ref 208),(.int 47 0),(.int 0 0),(.ref 215),(.int 49 0),(.int 0 0),(.ref 222),(.int 54 0),(.int 0 0),(.ref 227),(.int 58 0),(.int 0 0),(.ref 232),(.int 64 0),(.int 0 0),(.ref 239)]),#[]⟩
noncomputable def h3 (a0:Nat) (a1:Nat) (a2:Str) (a3:Nat) (a4:Nat) (a5:Int) (a6:Nat) (a7:Nat) (a8:Nat):Obj:=⟨(.type "dict"),none,(Data.dict #[en P "__module__" a0 (.str "treeright.errors" 194),en P "__qualname__" a1 (.str a2 a3),en P "__firstlineno__" a4 (.int a5 a6),en P "__static_attributes__" a7 (.ref a8)] 4),#[]⟩
noncomputable def o16:Obj:=h3 P 317 319 "NoRow" 318 321 19 320 322 114
noncomputable def o17:Obj:=h3 P 301 303 "NoRight" 302 305 17 304 306 102
noncomputable def o72:Obj:=h3 P 365 367 "NoMend" 366 369 25 368 370 150
noncomputable def o91:Obj:=h3 P 333 335 "NoTie" 334 337 21 336 338 126
noncomputable def o166:Obj:=h3 P 406 408 "NoLine" 407 410 32 409 411 181
noncomputable def o170:Obj:=h3 P 269 271 "NoAsker" 270 273 13 272 274 78
noncomputable def o174:Obj:=h3 P 285 287 "NoLetter" 286 289 15 288 290 90
noncomputable def o188:Obj:=h3 P 237 239 "NoHouse" 238 241 9 240 242 54
noncomputable def o212:Obj:=h3 P 221 223 "NoTree" 222 225 7 224 226 42
noncomputable def o217:Obj:=h3 P 253 255 "NoSeat" 254 257 11 256 258 66
noncomputable def o260:Obj:=h3 P 203 205 "TreeError" 204 207 5 206 208 29
noncomputable def o269:Obj:=h3 P 349 351 "Down" 350 353 23 352 354 138
noncomputable def h4 (a0:Str) (a1:Nat) (a2:Str) (a3:Nat) (a4:Nat) (a5:Int) (a6:Int) (a7:Nat) (a8:Nat) (a9:Nat) (a10:Nat) (a11:Nat) (a12:Int) (a13:Nat):Obj:=⟨(.type "code"),none,(Data.fields #[(.str a0 a1),(.str a2 a3),(.str "/claim/cut.py" a4),(.int a5 0),(.int a6 0),(.int 0 0),(.int 0 0),(.int 3 0),(.ref a7),(.bool true),(.int 181 0),(.ref a8),.none,(.ref a9),(.ref a10),(.ref a11),(.int a12 0),(.int a5 0),(.str "/claim/cut.py" a13)]),#[]⟩
noncomputable def o19:Obj:=h4 "_law_mixed" 569 "_law_mixed" 570 571 112 2 302 303 304 305 306 575 576
noncomputable def o26:Obj:=h4 "ties" 514 "Tree.ties" 515 516 90 1 260 261 262 263 264 518 519
noncomputable def o27:Obj:=h4 "_law_made" 694 "_law_made" 695 696 219 2 390 391 392 393 394 703 704
noncomputable def o41:Obj:=h4 "steps_toward" 477 "steps_toward" 478 479 64 2 234 235 236 237 238 486 487
noncomputable def o46:Obj:=h4 "is_tie" 455 "is_tie" 456 457 49 2 217 218 219 220 221 462 463
noncomputable def o49:Obj:=h4 "without" 540 "Tree.without" 541 542 105 2 281 282 283 284 285 545 546
noncomputable def o66:Obj:=h4 "are_houses" 448 "are_houses" 449 450 47 1 210 211 212 213 214 452 453
noncomputable def o75:Obj:=h4 "_law_tree" 626 "_law_tree" 627 628 151 2 347 348 349 350 351 636 637
noncomputable def o79:Obj:=h4 "_law_ties_otherwise" 680 "_law_ties_otherwise" 681 682 202 3 383 384 385 386 387 691 692
noncomputable def o94:Obj:=h4 "_law_shuffled" 616 "_law_shuffled" 617 618 145 2 340 341 342 343 344 623 624
noncomputable def o97:Obj:=h4 "road" 529 "Tree.road" 530 531 96 3 274 275 276 277 278 537 538
noncomputable def o100:Obj:=h4 "_law_odd_name" 651 "_law_odd_name" 652 653 179 2 364 365 366 367 368 659 660
noncomputable def o103:Obj:=h4 "_law_next" 585 "_law_next" 586 587 119 2 316 317 318 319 320 591 592
noncomputable def o116:Obj:=h4 "is_one_of" 427 "is_one_of" 428 429 41 2 191 192 193 194 195 432 433
noncomputable def o142:Obj:=h4 "_wall" 187 "_wall" 188 189 1 1 15 16 17 18 19 191 192
noncomputable def o149:Obj:=h4 "neighbours" 521 "Tree.neighbours" 522 523 93 2 267 268 269 270 271 526 527
noncomputable def o153:Obj:=h4 "houses" 507 "Tree.houses" 508 509 87 1 253 254 255 256 257 511 512
noncomputable def o160:Obj:=h4 "_law_odd_tie" 662 "_law_odd_tie" 663 664 184 2 371 372 373 374 375 671 672
noncomputable def o163:Obj:=h4 "__init__" 386 "NoText.__init__" 387 388 29 2 162 163 164 165 166 391 392
noncomputable def o168:Obj:=h4 "_law_turned" 606 "_law_turned" 607 608 141 2 333 334 335 336 337 613 614
noncomputable def o190:Obj:=h4 "are_unlike" 441 "are_unlike" 442 443 45 1 203 204 205 206 207 445 446
noncomputable def o239:Obj:=h4 "check_house" 548 "Tree.check_house" 549 550 108 2 288 289 290 291 292 553 554
noncomputable def o274:Obj:=h4 "_law_digits" 578 "_law_digits" 579 580 117 1 309 310 311 312 313 582 583
noncomputable def h5 (a0:Nat) (a1:Nat) (a2:Int) (a3:Nat) (a4:Str) (a5:Nat) (a6:Nat) (a7:Str) (a8:Nat) (a9:Nat) (a10:Nat) (a11:Nat):Obj:=⟨(.type "dict"),none,(Data.dict #[en P "__module__" a0 (.str "treeright.errors" 194),en P "__firstlineno__" a1 (.int a2 a3),en P a4 a5 (.ref a6),en P a7 a8 (.ref a9),en P "__doc__" a10 .none] a11),#[]⟩
noncomputable def o21:Obj:=h5 P 203 207 5 206 "__static_attributes__" 208 29 "__weakref__" 210 32 211 3
noncomputable def o173:Obj:=h5 P 381 385 27 384 "__init__" 393 168 "__static_attributes__" 395 169 396 2
noncomputable def h6 (a0:Str) (a1:Str) (a2:Stmt) (a3:Str) (a4:Nat) (a5:Nat):Obj:=⟨(.type "function"),none,(Data.func ⟨a0,a1,(defArgs a2),(FuncBody.stmts (defBody a2)),(defScope a2),3,[],.none,.none,.none,(.str a3 a4),none,(.ref a5),.none,0⟩),#[]⟩
noncomputable def o22:Obj:=h6 "_law_shuffled" "_law_shuffled" (tp 35) "law_treeright_k03_what_is_no_tree" 567 345
noncomputable def o23:Obj:=h6 "road" "Tree.road" (ic 27 4) "treeright.trees" 415 279
noncomputable def o31:Obj:=h6 "is_one_of" "is_one_of" (tp 19) "treeright.trees" 415 196
noncomputable def o39:Obj:=h6 "tied_to_each" "tied_to_each" (tp 25) "treeright.trees" 415 232
noncomputable def o51:Obj:=h6 "check_house" "Tree.check_house" (ic 27 6) "treeright.trees" 415 293
noncomputable def o58:Obj:=h6 "is_tie" "is_tie" (tp 23) "treeright.trees" 415 222
noncomputable def o61:Obj:=h6 "_law_odd_tie" "_law_odd_tie" (tp 40) "law_treeright_k03_what_is_no_tree" 567 376
noncomputable def o62:Obj:=h6 "houses" "Tree.houses" (ic 27 1) "treeright.trees" 415 258
noncomputable def o78:Obj:=h6 "_law_next" "_law_next" (tp 31) "law_treeright_k03_what_is_no_tree" 567 321
noncomputable def o80:Obj:=h6 "_law_made" "_law_made" (tp 43) "law_treeright_k03_what_is_no_tree" 567 395
noncomputable def o105:Obj:=h6 "neighbours" "Tree.neighbours" (ic 27 3) "treeright.trees" 415 272
noncomputable def o120:Obj:=h6 "_law_names" "_law_names" (tp 33) "law_treeright_k03_what_is_no_tree" 567 331
noncomputable def o124:Obj:=h6 "_law_digits" "_law_digits" (tp 30) "law_treeright_k03_what_is_no_tree" 567 314
noncomputable def o135:Obj:=h6 "_law_tree" "_law_tree" (tp 36) "law_treeright_k03_what_is_no_tree" 567 352
noncomputable def o140:Obj:=h6 "_law_is_tree" "_law_is_tree" (tp 38) "law_treeright_k03_what_is_no_tree" 567 362
noncomputable def o147:Obj:=h6 "ties" "Tree.ties" (ic 27 2) "treeright.trees" 415 265
noncomputable def o151:Obj:=h6 "are_names" "are_names" (tp 20) "treeright.trees" 415 201
noncomputable def o180:Obj:=h6 "_law_is_name" "_law_is_name" (tp 37) "law_treeright_k03_what_is_no_tree" 567 357
noncomputable def o181:Obj:=h6 "steps_toward" "steps_toward" (tp 26) "treeright.trees" 415 239
noncomputable def o197:Obj:=h6 "_law_right" "_law_right" (tp 44) "law_treeright_k03_what_is_no_tree" 567 400
noncomputable def o201:Obj:=h6 "law" "law" (tp 45) "law_treeright_k03_what_is_no_tree" 567 405
noncomputable def o206:Obj:=h6 "_law_odd_name" "_law_odd_name" (tp 39) "law_treeright_k03_what_is_no_tree" 567 369
noncomputable def o214:Obj:=h6 "_law_mixed" "_law_mixed" (tp 29) "law_treeright_k03_what_is_no_tree" 567 307
noncomputable def o216:Obj:=h6 "__init__" "NoText.__init__" (ic 13 0) "treeright.errors" 194 167
noncomputable def o218:Obj:=h6 "_law_ties_otherwise" "_law_ties_otherwise" (tp 42) "law_treeright_k03_what_is_no_tree" 567 388
noncomputable def o219:Obj:=h6 "are_ties" "are_ties" (tp 24) "treeright.trees" 415 227
noncomputable def o223:Obj:=h6 "are_unlike" "are_unlike" (tp 21) "treeright.trees" 415 208
noncomputable def o237:Obj:=h6 "is_name" "is_name" (tp 18) "treeright.trees" 415 189
noncomputable def o238:Obj:=h6 "_law_turned" "_law_turned" (tp 34) "law_treeright_k03_what_is_no_tree" 567 338
noncomputable def o240:Obj:=h6 "__init__" "Tree.__init__" (ic 27 0) "treeright.trees" 415 251
noncomputable def o242:Obj:=h6 "_wall" "_wall" (tp 0) "__main__" 164 20
noncomputable def o249:Obj:=h6 "are_houses" "are_houses" (tp 22) "treeright.trees" 415 215
noncomputable def o251:Obj:=h6 "without" "Tree.without" (ic 27 5) "treeright.trees" 415 286
noncomputable def o263:Obj:=h6 "_law_word" "_law_word" (tp 32) "law_treeright_k03_what_is_no_tree" 567 326
noncomputable def o272:Obj:=h6 "_law_houses_otherwise" "_law_houses_otherwise" (tp 41) "law_treeright_k03_what_is_no_tree" 567 381
noncomputable def h7 (a0:Str) (a1:Nat) (a2:Str) (a3:Nat) (a4:Str) (a5:Nat):Obj:=⟨(.type "tuple"),none,(Data.seq #[(.str a0 a1),(.str a2 a3),(.str a4 a5)] 0),#[]⟩
noncomputable def o28:Obj:=h7 "names" 556 "near" 557 "pairs" 558
noncomputable def o50:Obj:=h7 "_law_cell" 572 "_law_k" 573 "_law_number" 574
noncomputable def o202:Obj:=h7 "_law_source" 588 "_law_many" 589 "_law_found" 590
noncomputable def h8 (a0:Str) (a1:Nat) (a2:Nat) (a3:Nat) (a4:Int) (a5:Nat) (a6:Nat) (a7:Int) (a8:Nat):Obj:=⟨(.type "code"),none,(Data.fields #[(.str a0 a1),(.str a0 a2),(.str "/claim/cut.py" a3),(.int a4 0),(.int 0 0),(.int 0 0),(.int 0 0),(.int 0 0),(.ref a5),(.bool false),(.int 181 0),(.ref a6),.none,.none,.none,.none,(.int a7 0),(.int a4 0),(.str "/claim/cut.py" a8)]),#[]⟩
noncomputable def o29:Obj:=h8 "NoLine" 401 402 403 32 177 178 404 405
noncomputable def o67:Obj:=h8 "NoTie" 328 329 330 21 122 123 331 332
noncomputable def o93:Obj:=h8 "NoHouse" 232 233 234 9 50 51 235 236
noncomputable def o113:Obj:=h8 "NoTree" 216 217 218 7 38 39 219 220
noncomputable def o114:Obj:=h8 "Tree" 491 492 493 74 244 245 494 495
noncomputable def o126:Obj:=h8 "TreeError" 198 199 200 5 25 26 201 202
noncomputable def o143:Obj:=h8 "<module>" 182 183 184 1 11 12 185 186
noncomputable def o144:Obj:=h8 "NoRow" 312 313 314 19 110 111 315 316
noncomputable def o150:Obj:=h8 "NoSeat" 248 249 250 11 62 63 251 252
noncomputable def o207:Obj:=h8 "NoRight" 296 297 298 17 98 99 299 300
noncomputable def o208:Obj:=h8 "NoLetter" 280 281 282 15 86 87 283 284
noncomputable def o220:Obj:=h8 "NoText" 376 377 378 27 158 159 379 380
noncomputable def o246:Obj:=h8 "NoAsker" 264 265 266 13 74 75 267 268
noncomputable def o264:Obj:=h8 "NoMend" 360 361 362 25 146 147 363 364
noncomputable def o283:Obj:=h8 "Down" 344 345 346 23 134 135 347 348
noncomputable def h9 (a0:Nat) (a1:Nat) (a2:Str) (a3:Nat):Obj:=⟨(.type "frame"),none,Data.plain,#[(some (.ref a0)),(some (.ref 3)),(some (.ref a1)),none,(some (.str a2 a3)),none,(some (.ref 0))]⟩
noncomputable def o32:Obj:=h9 124 121 "treeright.errors" 194
noncomputable def o34:Obj:=h9 64 61 "treeright.errors" 194
noncomputable def o56:Obj:=h9 148 145 "treeright.errors" 194
noncomputable def o57:Obj:=h9 112 109 "treeright.errors" 194
noncomputable def o59:Obj:=h9 136 133 "treeright.errors" 194
noncomputable def o74:Obj:=h9 13 3 "__main__" 164
noncomputable def o92:Obj:=h9 88 85 "treeright.errors" 194
noncomputable def o101:Obj:=h9 246 243 "treeright.trees" 415
noncomputable def o109:Obj:=h9 27 24 "treeright.errors" 194
noncomputable def o111:Obj:=h9 52 49 "treeright.errors" 194
noncomputable def o130:Obj:=h9 76 73 "treeright.errors" 194
noncomputable def o155:Obj:=h9 100 97 "treeright.errors" 194
noncomputable def o185:Obj:=h9 40 37 "treeright.errors" 194
noncomputable def o224:Obj:=h9 160 157 "treeright.errors" 194
noncomputable def o236:Obj:=h9 179 176 "treeright.errors" 194
noncomputable def o33:Obj:=⟨.none,none,(Data.fields #[(.int 1 0),(.int 0 0),(.ref 20),(.int 5 0),(.int 0 0),(.ref 27),(.int 7 0),(.int 0 0),(.ref 40),(.int 9 0),(.int 0 0),(.ref 52),(.int 11 0),(.int 0 0),(.ref 64),(.int 13 0),(.int 0 0),(.ref 76),(.int 15 0),(.int 0 0),(.ref 88),(.int 17 0),(.int 0 0),(.ref 100),(.int 19 0),(.int 0 0),(.ref 112),(.int 21 0),(.int 0 0),(.ref 124),(.int 23 0),(.int 0 0),(.ref 136),(.int 25 0),(.int 0 0),(.ref 148),(.int 27 0),(.int 0 0),(.ref 160),(.int 32 0),(.int 0 0),(.ref 179),(.int 37 0),(.int 0 0),(.ref 189),(.int 41 0),(.int 0 0),(.ref 196),(.int 43 0),(.int 0 0),(.ref 201),(.int 45 0),(.int 0 0),(.ref 208),(.int 47 0),(.int 0 0),(.ref 215),(.int 49 0),(.int 0 0),(.ref 222),(.int 54 0),(.int 0 0),(.ref 227),(.int 58 0),(.int 0 0),(.ref 232),(.int 64 0),(.int 0 0),(.ref 239),(.int 74 0),(.int 0 0),(.ref 246),(.int 112 0),(.int 0 0),(.ref 307),(.int 117 0),(.int 0 0),(.ref 314),(.int 119 0),(.int 0 0),(.ref 321),(.int 126 0),(.int 0 0),(.ref 326),(.int 129 0),(.int 0 0),(.ref 331),(.int 141 0),(.int 0 0),(.ref 338),(.int 145 0),(.int 0 0),(.ref 345),(.int 151 0),(.int 0 0),(.ref 352),(.int 159 0),(.int 0 0),(.ref 357),(.int 163 0),(.int 0 0),(.ref 362),(.int 179 0),(.int 0 0),(.ref 369),(.int 184 0),(.int 0 0),(.ref 376),(.int 190 0),(.int 0 0),(.ref 381)]),#[]⟩
noncomputable def o35:Obj:=⟨(.type "type"),none,(Data.cls ⟨"TreeError",[(.type "ValueError")],[(.ref 31),(.type "ValueError"),(.type "Exception"),(.type "BaseException"),(.type "object")],30,"TreeError",true,[],[(.ref 44),(.ref 56),(.ref 68),(.ref 80),(.ref 92),(.ref 104),(.ref 116),(.ref 128),(.ref 140),(.ref 152),(.ref 171),(.ref 183)],false,none,false⟩),#[(some (.ref 22)),none,(some (.str "TreeError" 196)),(some (.str "TreeError" 204)),(some (.builtin "ValueError.__new__")),(some (.bool true))]⟩
noncomputable def o36:Obj:=⟨(.type "dict"),none,(Data.dict #[en P "__module__" 496 (.str "treeright.trees" 415),en P "__firstlineno__" 500 (.int 74 499),en P "__init__" 506 (.ref 252),en P "houses" 513 (.ref 259),en P "ties" 520 (.ref 266),en P "neighbours" 528 (.ref 273),en P "road" 539 (.ref 280),en P "without" 547 (.ref 287),en P "check_house" 555 (.ref 294),en P "__static_attributes__" 559 (.ref 295),en P "__dict__" 561 (.ref 298),en P "__weakref__" 563 (.ref 299),en P "__doc__" 564 .none] 4),#[]⟩
noncomputable def o37:Obj:=⟨(.type "dict"),none,(Data.dict #[en P "__module__" 496 (.str "treeright.trees" 415),en P "__qualname__" 498 (.str "Tree" 497),en P "__firstlineno__" 500 (.int 74 499),en P "__init__" 506 (.ref 252),en P "houses" 513 (.ref 259),en P "ties" 520 (.ref 266),en P "neighbours" 528 (.ref 273),en P "road" 539 (.ref 280),en P "without" 547 (.ref 287),en P "check_house" 555 (.ref 294),en P "__static_attributes__" 559 (.ref 295)] 11),#[]⟩
noncomputable def h10 (a0:Nat):Obj:=⟨(.type "builtin_function_or_method"),none,(Data.fields #[(.builtin "object.__init_subclass__"),(.ref a0)]),#[]⟩
noncomputable def o38:Obj:=h10 31
noncomputable def o63:Obj:=h10 183
noncomputable def o65:Obj:=h10 56
noncomputable def o82:Obj:=h10 128
noncomputable def o108:Obj:=h10 116
noncomputable def o137:Obj:=h10 152
noncomputable def o146:Obj:=h10 171
noncomputable def o148:Obj:=h10 297
noncomputable def o159:Obj:=h10 140
noncomputable def o178:Obj:=h10 80
noncomputable def o215:Obj:=h10 44
noncomputable def o225:Obj:=h10 68
noncomputable def o226:Obj:=h10 92
noncomputable def o281:Obj:=h10 104
noncomputable def o40:Obj:=⟨(.type "type"),none,(Data.cls ⟨"TreeError",[(.type "ValueError")],[(.ref 31),(.type "ValueError"),(.type "Exception"),(.type "BaseException"),(.type "object")],30,"TreeError",true,[],[(.ref 44),(.ref 56),(.ref 68),(.ref 80),(.ref 92),(.ref 104)],false,none,false⟩),#[(some (.ref 22)),none,(some (.str "TreeError" 196)),(some (.str "TreeError" 204)),(some (.builtin "ValueError.__new__")),(some (.bool true))]⟩
noncomputable def o44:Obj:=⟨(.type "type"),none,(Data.cls ⟨"TreeError",[(.type "ValueError")],[(.ref 31),(.type "ValueError"),(.type "Exception"),(.type "BaseException"),(.type "object")],30,"TreeError",true,[],[(.ref 44),(.ref 56),(.ref 68),(.ref 80),(.ref 92),(.ref 104),(.ref 116),(.ref 128)],false,none,false⟩),#[(some (.ref 22)),none,(some (.str "TreeError" 196)),(some (.str "TreeError" 204)),(some (.builtin "ValueError.__new__")),(some (.bool true))]⟩
noncomputable def o45:Obj:=⟨(.type "dict"),none,(Data.dict #[en P "__name__" 165 (.str "law_treeright_k03_what_is_no_tree" 567),en P "__doc__" 166 .none,en P "__package__" 167 .none,en P "__loader__" 168 (.builtin "__main__.__loader__#opaque"),en P "__spec__" 169 .none,en P "__annotations__" 170 (.ref 6),en P "__builtins__" 171 (.ref 4),en P "__file__" 173 (.str "/claim/cut.py" 172),en P "__cached__" 174 .none,en P "_wall" 193 (.ref 21),en P "TreeError" 213 (.ref 31),en P "NoTree" 229 (.ref 44),en P "NoHouse" 245 (.ref 56),en P "NoSeat" 261 (.ref 68),en P "NoAsker" 277 (.ref 80),en P "NoLetter" 293 (.ref 92),en P "NoRight" 309 (.ref 104),en P "NoRow" 325 (.ref 116),en P "NoTie" 341 (.ref 128),en P "Down" 357 (.ref 140),en P "NoMend" 373 (.ref 152),en P "NoText" 398 (.ref 171),en P "NoLine" 414 (.ref 183),en P "LETTERS" 418 (.str "abcdefghijklmnopqrstuvwxyz" 417),en P "LONGEST_NAME" 420 (.int 8 419),en P "is_name" 426 (.ref 190),en P "is_one_of" 434 (.ref 197),en P "are_names" 440 (.ref 202),en P "are_unlike" 447 (.ref 209),en P "are_houses" 454 (.ref 216),en P "is_tie" 464 (.ref 223),en P "are_ties" 470 (.ref 228),en P "tied_to_each" 476 (.ref 233),en P "steps_toward" 488 (.ref 240),en P "Tree" 566 (.ref 297),en P "_law_mixed" 577 (.ref 308),en P "_law_digits" 584 (.ref 315),en P "_law_next" 593 (.ref 322),en P "_law_word" 599 (.ref 327),en P "_law_names" 605 (.ref 332),en P "_law_turned" 615 (.ref 339),en P "_law_shuffled" 625 (.ref 346),en P "_law_tree" 638 (.ref 353),en P "_law_is_name" 644 (.ref 358),en P "_law_is_tree" 650 (.ref 363),en P "_law_odd_name" 661 (.ref 370),en P "_law_odd_tie" 673 (.ref 377),en P "_law_houses_otherwise" 679 (.ref 382),en P "_law_ties_otherwise" 693 (.ref 389),en P "_law_made" 705 (.ref 396),en P "_law_right" 711 (.ref 401),en P "law" 717 (.ref 406)] 52),#[]⟩
noncomputable def o47:Obj:=⟨(.type "type"),none,(Data.cls ⟨"TreeError",[(.type "ValueError")],[(.ref 31),(.type "ValueError"),(.type "Exception"),(.type "BaseException"),(.type "object")],30,"TreeError",true,[],[(.ref 44),(.ref 56),(.ref 68)],false,none,false⟩),#[(some (.ref 22)),none,(some (.str "TreeError" 196)),(some (.str "TreeError" 204)),(some (.builtin "ValueError.__new__")),(some (.bool true))]⟩
noncomputable def o53:Obj:=⟨(.type "builtin_function_or_method"),none,(Data.fields #[(.builtin "type.__prepare__"),(.type "type")]),#[]⟩
noncomputable def o54:Obj:=⟨(.type "tuple"),none,(Data.seq #[(.ref 31)] 0),#[]⟩
noncomputable def h11 (a0:Str) (a1:Nat) (a2:Str) (a3:Nat) (a4:Nat) (a5:Int) (a6:Int) (a7:Nat) (a8:Nat) (a9:Nat) (a10:Int) (a11:Nat):Obj:=⟨(.type "code"),none,(Data.fields #[(.str a0 a1),(.str a2 a3),(.str "/claim/cut.py" a4),(.int a5 0),(.int a6 0),(.int 0 0),(.int 0 0),(.int 3 0),(.ref a7),(.bool true),(.int 181 0),(.ref a8),.none,.none,.none,(.ref a9),(.int a10 0),(.int a5 0),(.str "/claim/cut.py" a11)]),#[]⟩
noncomputable def o55:Obj:=h11 "__init__" 501 "Tree.__init__" 502 503 76 3 248 249 250 504 505
noncomputable def o112:Obj:=h11 "_law_is_name" 639 "_law_is_name" 640 641 159 1 354 355 356 642 643
noncomputable def o129:Obj:=h11 "tied_to_each" 471 "tied_to_each" 472 473 58 2 229 230 231 474 475
noncomputable def o164:Obj:=h11 "is_name" 421 "is_name" 422 423 37 1 186 187 188 424 425
noncomputable def o167:Obj:=h11 "_law_names" 600 "_law_names" 601 602 129 2 328 329 330 603 604
noncomputable def o183:Obj:=h11 "law" 712 "law" 713 714 237 1 402 403 404 715 716
noncomputable def o186:Obj:=h11 "are_names" 435 "are_names" 436 437 43 1 198 199 200 438 439
noncomputable def o189:Obj:=h11 "_law_houses_otherwise" 674 "_law_houses_otherwise" 675 676 190 2 378 379 380 677 678
noncomputable def o232:Obj:=h11 "are_ties" 465 "are_ties" 466 467 54 2 224 225 226 468 469
noncomputable def o247:Obj:=h11 "_law_word" 594 "_law_word" 595 596 126 2 323 324 325 597 598
noncomputable def o271:Obj:=h11 "_law_right" 706 "_law_right" 707 708 229 2 397 398 399 709 710
noncomputable def o276:Obj:=h11 "_law_is_tree" 645 "_law_is_tree" 646 647 163 2 359 360 361 648 649
noncomputable def h12 (a0:Nat) (a1:Nat) (a2:Int) (a3:Nat) (a4:Nat) (a5:Nat) (a6:Nat):Obj:=⟨(.type "dict"),none,(Data.dict #[en P "__module__" a0 (.str "treeright.errors" 194),en P "__firstlineno__" a1 (.int a2 a3),en P "__static_attributes__" a4 (.ref a5),en P "__doc__" a6 .none] 2),#[]⟩
noncomputable def o68:Obj:=h12 P 349 353 23 352 354 138 355
noncomputable def o69:Obj:=h12 P 333 337 21 336 338 126 339
noncomputable def o85:Obj:=h12 P 317 321 19 320 322 114 323
noncomputable def o95:Obj:=h12 P 269 273 13 272 274 78 275
noncomputable def o196:Obj:=h12 P 253 257 11 256 258 66 259
noncomputable def o198:Obj:=h12 P 365 369 25 368 370 150 371
noncomputable def o244:Obj:=h12 P 237 241 9 240 242 54 243
noncomputable def o265:Obj:=h12 P 221 225 7 224 226 42 227
noncomputable def o273:Obj:=h12 P 301 305 17 304 306 102 307
noncomputable def o279:Obj:=h12 P 406 410 32 409 411 181 412
noncomputable def o282:Obj:=h12 P 285 289 15 288 290 90 291
noncomputable def h13 (a0:Str) (a1:Nat):Obj:=⟨(.type "tuple"),none,(Data.seq #[(.str a0 a1)] 0),#[]⟩
noncomputable def o70:Obj:=h13 "self" 510
noncomputable def o76:Obj:=h13 "self" 517
noncomputable def o99:Obj:=h13 "thing" 451
noncomputable def o156:Obj:=h13 "_law_cell" 581
noncomputable def o175:Obj:=h13 "line" 394
noncomputable def o182:Obj:=h13 "names" 444
noncomputable def o257:Obj:=h13 "k" 190
noncomputable def o71:Obj:=⟨(.type "dict"),none,(Data.dict #[en P "__module__" 381 (.str "treeright.errors" 194),en P "__qualname__" 383 (.str "NoText" 382),en P "__firstlineno__" 385 (.int 27 384),en P "__init__" 393 (.ref 168),en P "__static_attributes__" 395 (.ref 169)] 5),#[]⟩
noncomputable def o73:Obj:=⟨(.type "dict"),none,(Data.dict #[en P "__name__" 165 (.str "treeright.trees" 415),en P "__doc__" 166 .none,en P "__package__" 167 .none,en P "__loader__" 168 (.builtin "__main__.__loader__#opaque"),en P "__spec__" 169 .none,en P "__annotations__" 170 (.ref 6),en P "__builtins__" 171 (.ref 4),en P "__file__" 173 (.str "/claim/cut.py" 172),en P "__cached__" 174 .none,en P "_wall" 193 (.ref 21),en P "TreeError" 213 (.ref 31),en P "NoTree" 229 (.ref 44),en P "NoHouse" 245 (.ref 56),en P "NoSeat" 261 (.ref 68),en P "NoAsker" 277 (.ref 80),en P "NoLetter" 293 (.ref 92),en P "NoRight" 309 (.ref 104),en P "NoRow" 325 (.ref 116),en P "NoTie" 341 (.ref 128),en P "Down" 357 (.ref 140),en P "NoMend" 373 (.ref 152),en P "NoText" 398 (.ref 171),en P "NoLine" 414 (.ref 183),en P "LETTERS" 418 (.str "abcdefghijklmnopqrstuvwxyz" 417),en P "LONGEST_NAME" 420 (.int 8 419),en P "is_name" 426 (.ref 190),en P "is_one_of" 434 (.ref 197),en P "are_names" 440 (.ref 202),en P "are_unlike" 447 (.ref 209),en P "are_houses" 454 (.ref 216),en P "is_tie" 464 (.ref 223),en P "are_ties" 470 (.ref 228),en P "tied_to_each" 476 (.ref 233),en P "steps_toward" 488 (.ref 240)] 34),#[]⟩
noncomputable def o77:Obj:=⟨(.type "tuple"),none,(Data.seq #[(.type "ValueError")] 0),#[]⟩
noncomputable def h14 (a0:Str) (a1:Nat) (a2:Str) (a3:Nat) (a4:Str) (a5:Nat) (a6:Str) (a7:Nat) (a8:Str) (a9:Nat):Obj:=⟨(.type "tuple"),none,(Data.seq #[(.str a0 a1),(.str a2 a3),(.str a4 a5),(.str a6 a7),(.str a8 a9)] 0),#[]⟩
noncomputable def o84:Obj:=h14 "self" 532 "one" 533 "other" 534 "steps" 535 "passed" 536
noncomputable def o234:Obj:=h14 "_law_source" 654 "_law_names_here" 655 "_law_name" 656 "_law_at" 657 "_law_sign" 658
noncomputable def o86:Obj:=⟨.none,none,(Data.fields #[(.int 1 0),(.int 0 0),(.ref 20),(.int 5 0),(.int 0 0),(.ref 27),(.int 7 0),(.int 0 0),(.ref 40),(.int 9 0),(.int 0 0),(.ref 52),(.int 11 0),(.int 0 0),(.ref 64),(.int 13 0),(.int 0 0),(.ref 76)]),#[]⟩
noncomputable def o87:Obj:=⟨(.type "dict"),none,(Data.dict #[en P "__name__" 165 (.str "treeright.errors" 194),en P "__doc__" 166 .none,en P "__package__" 167 .none,en P "__loader__" 168 (.builtin "__main__.__loader__#opaque"),en P "__spec__" 169 .none,en P "__annotations__" 170 (.ref 6),en P "__builtins__" 171 (.ref 4),en P "__file__" 173 (.str "/claim/cut.py" 172),en P "__cached__" 174 .none,en P "_wall" 193 (.ref 21),en P "TreeError" 213 (.ref 31),en P "NoTree" 229 (.ref 44),en P "NoHouse" 245 (.ref 56),en P "NoSeat" 261 (.ref 68)] 14),#[]⟩
noncomputable def o88:Obj:=⟨(.type "type"),none,(Data.cls ⟨"TreeError",[(.type "ValueError")],[(.ref 31),(.type "ValueError"),(.type "Exception"),(.type "BaseException"),(.type "object")],30,"TreeError",true,[],[(.ref 44),(.ref 56),(.ref 68),(.ref 80),(.ref 92)],false,none,false⟩),#[(some (.ref 22)),none,(some (.str "TreeError" 196)),(some (.str "TreeError" 204)),(some (.builtin "ValueError.__new__")),(some (.bool true))]⟩
noncomputable def o89:Obj:=⟨(.type "dict"),none,(Data.dict #[en P "__name__" 165 (.str "treeright.errors" 194),en P "__doc__" 166 .none,en P "__package__" 167 .none,en P "__loader__" 168 (.builtin "__main__.__loader__#opaque"),en P "__spec__" 169 .none,en P "__annotations__" 170 (.ref 6),en P "__builtins__" 171 (.ref 4),en P "__file__" 173 (.str "/claim/cut.py" 172),en P "__cached__" 174 .none,en P "_wall" 193 (.ref 21),en P "TreeError" 213 (.ref 31),en P "NoTree" 229 (.ref 44),en P "NoHouse" 245 (.ref 56),en P "NoSeat" 261 (.ref 68),en P "NoAsker" 277 (.ref 80),en P "NoLetter" 293 (.ref 92),en P "NoRight" 309 (.ref 104),en P "NoRow" 325 (.ref 116),en P "NoTie" 341 (.ref 128),en P "Down" 357 (.ref 140),en P "NoMend" 373 (.ref 152)] 21),#[]⟩
noncomputable def h15 (a0:Nat) (a1:Nat):Obj:=⟨(.type "getset_descriptor"),none,(Data.fields #[(.str "__weakref__" a0),(.ref a1),(.builtin "ExceptionGroup.__weakref__"),.none]),#[]⟩
noncomputable def o90:Obj:=h15 209 31
noncomputable def o119:Obj:=h15 562 297
noncomputable def o96:Obj:=⟨.none,none,(Data.fields #[(.int 1 0),(.int 0 0),(.ref 20),(.int 5 0),(.int 0 0),(.ref 27),(.int 7 0),(.int 0 0),(.ref 40),(.int 9 0),(.int 0 0),(.ref 52),(.int 11 0),(.int 0 0),(.ref 64),(.int 13 0),(.int 0 0),(.ref 76),(.int 15 0),(.int 0 0),(.ref 88),(.int 17 0),(.int 0 0),(.ref 100),(.int 19 0),(.int 0 0),(.ref 112),(.int 21 0),(.int 0 0),(.ref 124),(.int 23 0),(.int 0 0),(.ref 136),(.int 25 0),(.int 0 0),(.ref 148),(.int 27 0),(.int 0 0),(.ref 160)]),#[]⟩
noncomputable def o98:Obj:=⟨(.type "type"),none,(Data.cls ⟨"Tree",[(.type "object")],[(.ref 297),(.type "object")],296,"Tree",true,[],[],false,none,false⟩),#[none,none,(some (.str "Tree" 489)),(some (.str "Tree" 497)),(some (.builtin "object.__new__")),(some (.bool true))]⟩
noncomputable def o106:Obj:=⟨(.type "dict"),none,(Data.dict #[en P "__name__" 165 (.str "treeright.errors" 194),en P "__doc__" 166 .none,en P "__package__" 167 .none,en P "__loader__" 168 (.builtin "__main__.__loader__#opaque"),en P "__spec__" 169 .none,en P "__annotations__" 170 (.ref 6),en P "__builtins__" 171 (.ref 4),en P "__file__" 173 (.str "/claim/cut.py" 172),en P "__cached__" 174 .none,en P "_wall" 193 (.ref 21),en P "TreeError" 213 (.ref 31)] 11),#[]⟩
noncomputable def o117:Obj:=⟨(.type "dict"),none,(Data.dict #[en P "__name__" 165 (.str "treeright.errors" 194),en P "__doc__" 166 .none,en P "__package__" 167 .none,en P "__loader__" 168 (.builtin "__main__.__loader__#opaque"),en P "__spec__" 169 .none,en P "__annotations__" 170 (.ref 6),en P "__builtins__" 171 (.ref 4),en P "__file__" 173 (.str "/claim/cut.py" 172),en P "__cached__" 174 .none,en P "_wall" 193 (.ref 21),en P "TreeError" 213 (.ref 31),en P "NoTree" 229 (.ref 44),en P "NoHouse" 245 (.ref 56),en P "NoSeat" 261 (.ref 68),en P "NoAsker" 277 (.ref 80),en P "NoLetter" 293 (.ref 92),en P "NoRight" 309 (.ref 104),en P "NoRow" 325 (.ref 116),en P "NoTie" 341 (.ref 128),en P "Down" 357 (.ref 140),en P "NoMend" 373 (.ref 152),en P "NoText" 398 (.ref 171)] 22),#[]⟩
noncomputable def o118:Obj:=⟨(.type "dict"),none,(Data.dict #[en P "__name__" 165 (.str "law_treeright_k03_what_is_no_tree" 567),en P "__doc__" 166 .none,en P "__package__" 167 .none,en P "__loader__" 168 (.builtin "__main__.__loader__#opaque"),en P "__spec__" 169 .none,en P "__annotations__" 170 (.ref 6),en P "__builtins__" 171 (.ref 4),en P "__file__" 173 (.str "/claim/cut.py" 172),en P "__cached__" 174 .none,en P "_wall" 193 (.ref 21),en P "TreeError" 213 (.ref 31),en P "NoTree" 229 (.ref 44),en P "NoHouse" 245 (.ref 56),en P "NoSeat" 261 (.ref 68),en P "NoAsker" 277 (.ref 80),en P "NoLetter" 293 (.ref 92),en P "NoRight" 309 (.ref 104),en P "NoRow" 325 (.ref 116),en P "NoTie" 341 (.ref 128),en P "Down" 357 (.ref 140),en P "NoMend" 373 (.ref 152),en P "NoText" 398 (.ref 171),en P "NoLine" 414 (.ref 183),en P "LETTERS" 418 (.str "abcdefghijklmnopqrstuvwxyz" 417),en P "LONGEST_NAME" 420 (.int 8 419),en P "is_name" 426 (.ref 190),en P "is_one_of" 434 (.ref 197),en P "are_names" 440 (.ref 202),en P "are_unlike" 447 (.ref 209),en P "are_houses" 454 (.ref 216),en P "is_tie" 464 (.ref 223),en P "are_ties" 470 (.ref 228),en P "tied_to_each" 476 (.ref 233),en P "steps_toward" 488 (.ref 240),en P "Tree" 566 (.ref 297),en P "_law_mixed" 577 (.ref 308),en P "_law_digits" 584 (.ref 315),en P "_law_next" 593 (.ref 322),en P "_law_word" 599 (.ref 327),en P "_law_names" 605 (.ref 332),en P "_law_turned" 615 (.ref 339),en P "_law_shuffled" 625 (.ref 346),en P "_law_tree" 638 (.ref 353),en P "_law_is_name" 644 (.ref 358),en P "_law_is_tree" 650 (.ref 363),en P "_law_odd_name" 661 (.ref 370),en P "_law_odd_tie" 673 (.ref 377),en P "_law_houses_otherwise" 679 (.ref 382)] 48),#[]⟩
noncomputable def o125:Obj:=⟨(.type "type"),none,(Data.cls ⟨"TreeError",[(.type "ValueError")],[(.ref 31),(.type "ValueError"),(.type "Exception"),(.type "BaseException"),(.type "object")],30,"TreeError",true,[],[(.ref 44),(.ref 56),(.ref 68),(.ref 80),(.ref 92),(.ref 104),(.ref 116),(.ref 128),(.ref 140),(.ref 152),(.ref 171)],false,none,false⟩),#[(some (.ref 22)),none,(some (.str "TreeError" 196)),(some (.str "TreeError" 204)),(some (.builtin "ValueError.__new__")),(some (.bool true))]⟩
noncomputable def o127:Obj:=⟨(.type "dict"),none,(Data.dict #[en P "__name__" 165 (.str "treeright.trees" 415),en P "__doc__" 166 .none,en P "__package__" 167 .none,en P "__loader__" 168 (.builtin "__main__.__loader__#opaque"),en P "__spec__" 169 .none,en P "__annotations__" 170 (.ref 6),en P "__builtins__" 171 (.ref 4),en P "__file__" 173 (.str "/claim/cut.py" 172),en P "__cached__" 174 .none,en P "_wall" 193 (.ref 21),en P "TreeError" 213 (.ref 31),en P "NoTree" 229 (.ref 44),en P "NoHouse" 245 (.ref 56),en P "NoSeat" 261 (.ref 68),en P "NoAsker" 277 (.ref 80),en P "NoLetter" 293 (.ref 92),en P "NoRight" 309 (.ref 104),en P "NoRow" 325 (.ref 116),en P "NoTie" 341 (.ref 128),en P "Down" 357 (.ref 140),en P "NoMend" 373 (.ref 152),en P "NoText" 398 (.ref 171),en P "NoLine" 414 (.ref 183),en P "LETTERS" 418 (.str "abcdefghijklmnopqrstuvwxyz" 417),en P "LONGEST_NAME" 420 (.int 8 419),en P "is_name" 426 (.ref 190),en P "is_one_of" 434 (.ref 197),en P "are_names" 440 (.ref 202),en P "are_unlike" 447 (.ref 209),en P "are_houses" 454 (.ref 216),en P "is_tie" 464 (.ref 223),en P "are_ties" 470 (.ref 228),en P "tied_to_each" 476 (.ref 233),en P "steps_toward" 488 (.ref 240),en P "Tree" 566 (.ref 297)] 35),#[]⟩
noncomputable def o128:Obj:=⟨.none,none,(Data.fields #[(.int 1 0),(.int 0 0),(.ref 20),(.int 5 0),(.int 0 0),(.ref 27),(.int 7 0),(.int 0 0),(.ref 40),(.int 9 0),(.int 0 0),(.ref 52),(.int 11 0),(.int 0 0),(.ref 64),(.int 13 0),(.int 0 0),(.ref 76),(.int 15 0),(.int 0 0),(.ref 88),(.int 17 0),(.int 0 0),(.ref 100)]),#[]⟩
noncomputable def h16 (a0:Str) (a1:Nat) (a2:Str) (a3:Nat) (a4:Str) (a5:Nat) (a6:Str) (a7:Nat) (a8:Str) (a9:Nat) (a10:Str) (a11:Nat):Obj:=⟨(.type "tuple"),none,(Data.seq #[(.str a0 a1),(.str a2 a3),(.str a4 a5),(.str a6 a7),(.str a8 a9),(.str a10 a11)] 0),#[]⟩
noncomputable def o132:Obj:=h16 "_law_houses" 697 "_law_ties" 698 "_law_told" 699 "_law_tree_here" 700 "e" 701 "_law_others" 702
noncomputable def o179:Obj:=h16 "near" 480 "goal" 481 "steps" 482 "fresh" 483 "here" 484 "other" 485
noncomputable def o209:Obj:=h16 "_law_source" 665 "_law_names_here" 666 "_law_one" 667 "_law_other" 668 "_law_odd" 669 "_law_some" 670
noncomputable def o133:Obj:=⟨.none,none,(Data.fields #[(.int 1 0),(.int 0 0),(.ref 20),(.int 5 0),(.int 0 0),(.ref 27),(.int 7 0),(.int 0 0),(.ref 40),(.int 9 0),(.int 0 0),(.ref 52),(.int 11 0),(.int 0 0),(.ref 64),(.int 13 0),(.int 0 0),(.ref 76),(.int 15 0),(.int 0 0),(.ref 88),(.int 17 0),(.int 0 0),(.ref 100),(.int 19 0),(.int 0 0),(.ref 112),(.int 21 0),(.int 0 0),(.ref 124),(.int 23 0),(.int 0 0),(.ref 136),(.int 25 0),(.int 0 0),(.ref 148),(.int 27 0),(.int 0 0),(.ref 160),(.int 32 0),(.int 0 0),(.ref 179),(.int 37 0),(.int 0 0),(.ref 189),(.int 41 0),(.int 0 0),(.ref 196),(.int 43 0),(.int 0 0),(.ref 201),(.int 45 0),(.int 0 0),(.ref 208),(.int 47 0),(.int 0 0),(.ref 215),(.int 49 0),(.int 0 0),(.ref 222),(.int 54 0),(.int 0 0),(.ref 227),(.int 58 0),(.int 0 0),(.ref 232),(.int 64 0),(.int 0 0),(.ref 239),(.int 74 0),(.int 0 0),(.ref 246),(.int 112 0),(.int 0 0),(.ref 307),(.int 117 0),(.int 0 0),(.ref 314),(.int 119 0),(.int 0 0),(.ref 321),(.int 126 0),(.int 0 0),(.ref 326),(.int 129 0),(.int 0 0),(.ref 331),(.int 141 0),(.int 0 0),(.ref 338),(.int 145 0),(.int 0 0),(.ref 345),(.int 151 0),(.int 0 0),(.ref 352),(.int 159 0),(.int 0 0),(.ref 357),(.int 163 0),(.int 0 0),(.ref 362),(.int 179 0),(.int 0 0),(.ref 369),(.int 184 0),(.int 0 0),(.ref 376),(.int 190 0),(.int 0 0),(.ref 381),(.int 202 0),(.int 0 0),(.ref 388),(.int 219 0),(.int 0 0),(.ref 395),(.int 229 0),(.int 0 0),(.ref 400),(.int 237 0),(.int 0 0),(.ref 405)]),#[]⟩
noncomputable def o138:Obj:=⟨.none,none,(Data.fields #[(.int 29 0),(.int 4 0),(.ref 167)]),#[]⟩
noncomputable def o141:Obj:=⟨(.type "dict"),none,(Data.dict #[en P "__name__" 165 (.str "treeright.errors" 194),en P "__doc__" 166 .none,en P "__package__" 167 .none,en P "__loader__" 168 (.builtin "__main__.__loader__#opaque"),en P "__spec__" 169 .none,en P "__annotations__" 170 (.ref 6),en P "__builtins__" 171 (.ref 4),en P "__file__" 173 (.str "/claim/cut.py" 172),en P "__cached__" 174 .none,en P "_wall" 193 (.ref 21),en P "TreeError" 213 (.ref 31),en P "NoTree" 229 (.ref 44),en P "NoHouse" 245 (.ref 56),en P "NoSeat" 261 (.ref 68),en P "NoAsker" 277 (.ref 80)] 15),#[]⟩
noncomputable def o152:Obj:=⟨.none,none,(Data.fields #[(.int 1 0),(.int 0 0),(.ref 20),(.int 5 0),(.int 0 0),(.ref 27),(.int 7 0),(.int 0 0),(.ref 40),(.int 9 0),(.int 0 0),(.ref 52),(.int 11 0),(.int 0 0),(.ref 64),(.int 13 0),(.int 0 0),(.ref 76),(.int 15 0),(.int 0 0),(.ref 88),(.int 17 0),(.int 0 0),(.ref 100),(.int 19 0),(.int 0 0),(.ref 112),(.int 21 0),(.int 0 0),(.ref 124),(.int 23 0),(.int 0 0),(.ref 136)]),#[]⟩
noncomputable def o161:Obj:=⟨(.type "dict"),none,(Data.dict #[en P "__name__" 165 (.str "treeright.errors" 194),en P "__doc__" 166 .none,en P "__package__" 167 .none,en P "__loader__" 168 (.builtin "__main__.__loader__#opaque"),en P "__spec__" 169 .none,en P "__annotations__" 170 (.ref 6),en P "__builtins__" 171 (.ref 4),en P "__file__" 173 (.str "/claim/cut.py" 172),en P "__cached__" 174 .none,en P "_wall" 193 (.ref 21),en P "TreeError" 213 (.ref 31),en P "NoTree" 229 (.ref 44),en P "NoHouse" 245 (.ref 56),en P "NoSeat" 261 (.ref 68),en P "NoAsker" 277 (.ref 80),en P "NoLetter" 293 (.ref 92),en P "NoRight" 309 (.ref 104),en P "NoRow" 325 (.ref 116),en P "NoTie" 341 (.ref 128),en P "Down" 357 (.ref 140)] 20),#[]⟩
noncomputable def o162:Obj:=⟨.none,none,(Data.fields #[(.int 1 0),(.int 0 0),(.ref 20),(.int 5 0),(.int 0 0),(.ref 27),(.int 7 0),(.int 0 0),(.ref 40),(.int 9 0),(.int 0 0),(.ref 52),(.int 11 0),(.int 0 0),(.ref 64),(.int 13 0),(.int 0 0),(.ref 76),(.int 15 0),(.int 0 0),(.ref 88),(.int 17 0),(.int 0 0),(.ref 100),(.int 19 0),(.int 0 0),(.ref 112),(.int 21 0),(.int 0 0),(.ref 124),(.int 23 0),(.int 0 0),(.ref 136),(.int 25 0),(.int 0 0),(.ref 148)]),#[]⟩
noncomputable def o165:Obj:=⟨(.type "dict"),none,(Data.dict #[en P "__name__" 165 (.str "treeright.errors" 194),en P "__doc__" 166 .none,en P "__package__" 167 .none,en P "__loader__" 168 (.builtin "__main__.__loader__#opaque"),en P "__spec__" 169 .none,en P "__annotations__" 170 (.ref 6),en P "__builtins__" 171 (.ref 4),en P "__file__" 173 (.str "/claim/cut.py" 172),en P "__cached__" 174 .none,en P "_wall" 193 (.ref 21),en P "TreeError" 213 (.ref 31),en P "NoTree" 229 (.ref 44)] 12),#[]⟩
noncomputable def o169:Obj:=⟨(.type "tuple"),none,(Data.seq #[(.str "_law_source" 629),(.str "_law_most" 630),(.str "_law_way" 631),(.str "_law_names_here" 632),(.str "_law_ties" 633),(.str "_law_k" 634),(.str "_law_other" 635)] 0),#[]⟩
noncomputable def o172:Obj:=⟨(.type "type"),none,(Data.cls ⟨"TreeError",[(.type "ValueError")],[(.ref 31),(.type "ValueError"),(.type "Exception"),(.type "BaseException"),(.type "object")],30,"TreeError",true,[],[(.ref 44),(.ref 56)],false,none,false⟩),#[(some (.ref 22)),none,(some (.str "TreeError" 196)),(some (.str "TreeError" 204)),(some (.builtin "ValueError.__new__")),(some (.bool true))]⟩
noncomputable def h17 (a0:Str) (a1:Nat) (a2:Str) (a3:Nat):Obj:=⟨(.type "tuple"),none,(Data.seq #[(.str a0 a1),(.str a2 a3)] 0),#[]⟩
noncomputable def o176:Obj:=h17 "thing" 430 "houses" 431
noncomputable def o184:Obj:=h17 "self" 524 "house" 525
noncomputable def o231:Obj:=h17 "self" 389 "line" 390
noncomputable def o235:Obj:=h17 "self" 543 "house" 544
noncomputable def o261:Obj:=h17 "self" 551 "house" 552
noncomputable def h18 (a0:Str) (a1:Nat) (a2:Str) (a3:Nat) (a4:Str) (a5:Nat) (a6:Str) (a7:Nat):Obj:=⟨(.type "tuple"),none,(Data.seq #[(.str a0 a1),(.str a2 a3),(.str a4 a5),(.str a6 a7)] 0),#[]⟩
noncomputable def o187:Obj:=h18 "thing" 458 "houses" 459 "one" 460 "other" 461
noncomputable def o204:Obj:=h18 "_law_source" 609 "_law_things" 610 "_law_at" 611 "_law_found" 612
noncomputable def o277:Obj:=h18 "_law_source" 619 "_law_names_here" 620 "_law_left" 621 "_law_found" 622
noncomputable def o191:Obj:=⟨.none,none,(Data.fields #[(.int 1 0),(.int 0 0),(.ref 20),(.int 5 0),(.int 0 0),(.ref 27),(.int 7 0),(.int 0 0),(.ref 40),(.int 9 0),(.int 0 0),(.ref 52),(.int 11 0),(.int 0 0),(.ref 64)]),#[]⟩
noncomputable def o192:Obj:=⟨(.type "dict"),none,(Data.dict #[en P "__name__" 165 (.str "treeright.errors" 194),en P "__doc__" 166 .none,en P "__package__" 167 .none,en P "__loader__" 168 (.builtin "__main__.__loader__#opaque"),en P "__spec__" 169 .none,en P "__annotations__" 170 (.ref 6),en P "__builtins__" 171 (.ref 4),en P "__file__" 173 (.str "/claim/cut.py" 172),en P "__cached__" 174 .none,en P "_wall" 193 (.ref 21),en P "TreeError" 213 (.ref 31),en P "NoTree" 229 (.ref 44),en P "NoHouse" 245 (.ref 56),en P "NoSeat" 261 (.ref 68),en P "NoAsker" 277 (.ref 80),en P "NoLetter" 293 (.ref 92),en P "NoRight" 309 (.ref 104),en P "NoRow" 325 (.ref 116)] 18),#[]⟩
noncomputable def o194:Obj:=⟨(.type "type"),none,(Data.cls ⟨"TreeError",[(.type "ValueError")],[(.ref 31),(.type "ValueError"),(.type "Exception"),(.type "BaseException"),(.type "object")],30,"TreeError",true,[],[(.ref 44),(.ref 56),(.ref 68),(.ref 80),(.ref 92),(.ref 104),(.ref 116),(.ref 128),(.ref 140)],false,none,false⟩),#[(some (.ref 22)),none,(some (.str "TreeError" 196)),(some (.str "TreeError" 204)),(some (.builtin "ValueError.__new__")),(some (.bool true))]⟩
noncomputable def o199:Obj:=⟨(.type "type"),none,(Data.cls ⟨"TreeError",[(.type "ValueError")],[(.ref 31),(.type "ValueError"),(.type "Exception"),(.type "BaseException"),(.type "object")],30,"TreeError",true,[],[(.ref 44),(.ref 56),(.ref 68),(.ref 80),(.ref 92),(.ref 104),(.ref 116),(.ref 128),(.ref 140),(.ref 152)],false,none,false⟩),#[(some (.ref 22)),none,(some (.str "TreeError" 196)),(some (.str "TreeError" 204)),(some (.builtin "ValueError.__new__")),(some (.bool true))]⟩
noncomputable def o200:Obj:=⟨.none,none,(Data.fields #[(.int 1 0),(.int 0 0),(.ref 20),(.int 5 0),(.int 0 0),(.ref 27),(.int 7 0),(.int 0 0),(.ref 40),(.int 9 0),(.int 0 0),(.ref 52),(.int 11 0),(.int 0 0),(.ref 64),(.int 13 0),(.int 0 0),(.ref 76),(.int 15 0),(.int 0 0),(.ref 88),(.int 17 0),(.int 0 0),(.ref 100),(.int 19 0),(.int 0 0),(.ref 112),(.int 21 0),(.int 0 0),(.ref 124),(.int 23 0),(.int 0 0),(.ref 136),(.int 25 0),(.int 0 0),(.ref 148),(.int 27 0),(.int 0 0),(.ref 160),(.int 32 0),(.int 0 0),(.ref 179),(.int 37 0),(.int 0 0),(.ref 189),(.int 41 0),(.int 0 0),(.ref 196),(.int 43 0),(.int 0 0),(.ref 201),(.int 45 0),(.int 0 0),(.ref 208),(.int 47 0),(.int 0 0),(.ref 215),(.int 49 0),(.int 0 0),(.ref 222),(.int 54 0),(.int 0 0),(.ref 227),(.int 58 0),(.int 0 0),(.ref 232),(.int 64 0),(.int 0 0),(.ref 239),(.int 74 0),(.int 0 0),(.ref 246)]),#[]⟩
noncomputable def o203:Obj:=⟨(.type "type"),none,(Data.cls ⟨"TreeError",[(.type "ValueError")],[(.ref 31),(.type "ValueError"),(.type "Exception"),(.type "BaseException"),(.type "object")],30,"TreeError",true,[],[(.ref 44)],false,none,false⟩),#[(some (.ref 22)),none,(some (.str "TreeError" 196)),(some (.str "TreeError" 204)),(some (.builtin "ValueError.__new__")),(some (.bool true))]⟩
noncomputable def o211:Obj:=⟨(.type "dict"),none,(Data.dict #[en P "__name__" 165 (.str "treeright.errors" 194),en P "__doc__" 166 .none,en P "__package__" 167 .none,en P "__loader__" 168 (.builtin "__main__.__loader__#opaque"),en P "__spec__" 169 .none,en P "__annotations__" 170 (.ref 6),en P "__builtins__" 171 (.ref 4),en P "__file__" 173 (.str "/claim/cut.py" 172),en P "__cached__" 174 .none,en P "_wall" 193 (.ref 21),en P "TreeError" 213 (.ref 31),en P "NoTree" 229 (.ref 44),en P "NoHouse" 245 (.ref 56),en P "NoSeat" 261 (.ref 68),en P "NoAsker" 277 (.ref 80),en P "NoLetter" 293 (.ref 92),en P "NoRight" 309 (.ref 104),en P "NoRow" 325 (.ref 116),en P "NoTie" 341 (.ref 128)] 19),#[]⟩
noncomputable def o221:Obj:=⟨.none,none,(Data.fields #[(.int 1 0),(.int 0 0),(.ref 20),(.int 5 0),(.int 0 0),(.ref 27),(.int 7 0),(.int 0 0),(.ref 40),(.int 9 0),(.int 0 0),(.ref 52),(.int 11 0),(.int 0 0),(.ref 64),(.int 13 0),(.int 0 0),(.ref 76),(.int 15 0),(.int 0 0),(.ref 88),(.int 17 0),(.int 0 0),(.ref 100),(.int 19 0),(.int 0 0),(.ref 112),(.int 21 0),(.int 0 0),(.ref 124)]),#[]⟩
noncomputable def h19 (a0:Int) (a1:Int) (a2:Nat) (a3:Int) (a4:Nat) (a5:Int) (a6:Nat) (a7:Int) (a8:Nat) (a9:Int) (a10:Nat) (a11:Int) (a12:Nat) (a13:Int) (a14:Nat):Obj:=⟨.none,none,(Data.fields #[(.int a0 0),(.int a1 0),(.ref a2),(.int a3 0),(.int a1 0),(.ref a4),(.int a5 0),(.int a1 0),(.ref a6),(.int a7 0),(.int a1 0),(.ref a8),(.int a9 0),(.int a1 0),(.ref a10),(.int a11 0),(.int a1 0),(.ref a12),(.int a13 0),(.int a1 0),(.ref a14)]),#[]⟩
noncomputable def o222:Obj:=h19 1 0 20 5 27 7 40 9 52 11 64 13 76 15 88
noncomputable def o253:Obj:=h19 76 4 251 87 258 90 265 93 272 96 279 105 286 108 293
noncomputable def o241:Obj:=⟨.none,none,(Data.fields #[(.int 1 0),(.int 0 0),(.ref 20),(.int 5 0),(.int 0 0),(.ref 27),(.int 7 0),(.int 0 0),(.ref 40),(.int 9 0),(.int 0 0),(.ref 52)]),#[]⟩
noncomputable def o250:Obj:=⟨(.type "type"),none,(Data.cls ⟨"TreeError",[(.type "ValueError")],[(.ref 31),(.type "ValueError"),(.type "Exception"),(.type "BaseException"),(.type "object")],30,"TreeError",true,[],[],false,none,false⟩),#[(some (.ref 22)),none,(some (.str "TreeError" 196)),(some (.str "TreeError" 204)),(some (.builtin "ValueError.__new__")),(some (.bool true))]⟩
noncomputable def o254:Obj:=⟨(.type "getset_descriptor"),none,(Data.fields #[(.str "__dict__" 560),(.ref 297),(.builtin "function.__dict__"),(.builtin "function.__dict__#set")]),#[]⟩
noncomputable def o256:Obj:=⟨(.type "dict"),none,(Data.dict #[en P "__name__" 165 (.str "treeright.errors" 194),en P "__doc__" 166 .none,en P "__package__" 167 .none,en P "__loader__" 168 (.builtin "__main__.__loader__#opaque"),en P "__spec__" 169 .none,en P "__annotations__" 170 (.ref 6),en P "__builtins__" 171 (.ref 4),en P "__file__" 173 (.str "/claim/cut.py" 172),en P "__cached__" 174 .none,en P "_wall" 193 (.ref 21),en P "TreeError" 213 (.ref 31),en P "NoTree" 229 (.ref 44),en P "NoHouse" 245 (.ref 56)] 13),#[]⟩
noncomputable def o259:Obj:=⟨.none,none,(Data.fields #[(.int 1 0),(.int 0 0),(.ref 20),(.int 5 0),(.int 0 0),(.ref 27),(.int 7 0),(.int 0 0),(.ref 40),(.int 9 0),(.int 0 0),(.ref 52),(.int 11 0),(.int 0 0),(.ref 64),(.int 13 0),(.int 0 0),(.ref 76),(.int 15 0),(.int 0 0),(.ref 88),(.int 17 0),(.int 0 0),(.ref 100),(.int 19 0),(.int 0 0),(.ref 112),(.int 21 0),(.int 0 0),(.ref 124),(.int 23 0),(.int 0 0),(.ref 136),(.int 25 0),(.int 0 0),(.ref 148),(.int 27 0),(.int 0 0),(.ref 160),(.int 32 0),(.int 0 0),(.ref 179),(.int 37 0),(.int 0 0),(.ref 189),(.int 41 0),(.int 0 0),(.ref 196),(.int 43 0),(.int 0 0),(.ref 201),(.int 45 0),(.int 0 0),(.ref 208),(.int 47 0),(.int 0 0),(.ref 215)]),#[]⟩
noncomputable def o262:Obj:=⟨(.type "tuple"),none,(Data.seq #[(.str "_law_source" 683),(.str "_law_names_here" 684),(.str "_law_ties" 685),(.str "_law_way" 686),(.str "_law_at" 687),(.str "_law_one" 688),(.str "_law_other" 689),(.str "_law_twice" 690)] 0),#[]⟩
noncomputable def o266:Obj:=⟨.none,none,(Data.fields #[(.int 1 0),(.int 0 0),(.ref 20),(.int 5 0),(.int 0 0),(.ref 27),(.int 7 0),(.int 0 0),(.ref 40),(.int 9 0),(.int 0 0),(.ref 52),(.int 11 0),(.int 0 0),(.ref 64),(.int 13 0),(.int 0 0),(.ref 76),(.int 15 0),(.int 0 0),(.ref 88),(.int 17 0),(.int 0 0),(.ref 100),(.int 19 0),(.int 0 0),(.ref 112)]),#[]⟩
noncomputable def o280:Obj:=⟨(.type "type"),none,(Data.cls ⟨"TreeError",[(.type "ValueError")],[(.ref 31),(.type "ValueError"),(.type "Exception"),(.type "BaseException"),(.type "object")],30,"TreeError",true,[],[(.ref 44),(.ref 56),(.ref 68),(.ref 80)],false,none,false⟩),#[(some (.ref 22)),none,(some (.str "TreeError" 196)),(some (.str "TreeError" 204)),(some (.builtin "ValueError.__new__")),(some (.bool true))]⟩
noncomputable def o284:Obj:=⟨(.type "dict"),none,(Data.dict #[en P "__name__" 165 (.str "treeright.errors" 194),en P "__doc__" 166 .none,en P "__package__" 167 .none,en P "__loader__" 168 (.builtin "__main__.__loader__#opaque"),en P "__spec__" 169 .none,en P "__annotations__" 170 (.ref 6),en P "__builtins__" 171 (.ref 4),en P "__file__" 173 (.str "/claim/cut.py" 172),en P "__cached__" 174 .none,en P "_wall" 193 (.ref 21),en P "TreeError" 213 (.ref 31),en P "NoTree" 229 (.ref 44),en P "NoHouse" 245 (.ref 56),en P "NoSeat" 261 (.ref 68),en P "NoAsker" 277 (.ref 80),en P "NoLetter" 293 (.ref 92),en P "NoRight" 309 (.ref 104)] 17),#[]⟩
noncomputable def q0:BT:=N (boot_o_7 P) (N o1 (N o44 (N o3 (N (o69 P) L L) L) (N o54 L L)) (N o54 (N (o95 P) L L) (N o3 L L))) (N o53 (N o3 (N o54 L L) (N (o273 P) L L)) (N (o244 P) (N o3 L L) (N o54 L L)))
noncomputable def q1:BT:=N o1 (N o285 (N o54 (N (o196 P) L L) (N o3 L L)) (N o3 (N o54 L L) (N (o85 P) L L))) (N o126 (N (o265 P) (N o3 L L) (N o54 L L)) (N o54 (N (o282 P) L L) (N o3 L L)))
noncomputable def q2:BT:=N (boot_o_9 P) (N o257 (N o233 (N o34 (N o268 L L) L) (N (o17 P) L L)) (N (o188 P) (N o154 L L) (N o57 L L))) (N o1 (N o185 (N (o170 P) L L) (N o243 L L)) (N o227 (N o92 L L) (N (o91 P) L L)))
noncomputable def q3:BT:=N o143 (N o242 (N (o212 P) (N o102 L L) (N o155 L L)) (N o111 (N (o174 P) L L) (N o230 L L))) (N o1 (N o278 (N o130 L L) (N (o16 P) L L)) (N (o217 P) (N o139 L L) (N o32 L L)))
noncomputable def q4:BT:=N (boot_o_8 P) (N o3 (N o90 (N o150 (N o193 L L) L) (N o53 L L)) (N o53 (N o205 L L) (N o144 L L))) (N (o260 P) (N o113 (N o53 L L) (N o12 L L)) (N o252 (N o208 L L) (N o53 L L)))
noncomputable def q5:BT:=N o221 (N o142 (N o53 (N o255 L L) (N o207 L L)) (N o93 (N o53 L L) (N o42 L L))) (N o109 (N o13 (N o246 L L) (N o53 L L)) (N o53 (N o228 L L) (N o67 L L)))
noncomputable def q6:BT:=N (boot_o_10 P) (N o1 (N o38 (N o1 (N o82 L L) L) (N o1 L L)) (N o1 (N o178 L L) (N o1 L L))) (N o3 (N o1 (N o1 L L) (N o281 L L)) (N o65 (N o1 L L) (N o1 L L)))
noncomputable def q7:BT:=N o74 (N o77 (N o1 (N o225 L L) (N o1 L L)) (N o1 (N o1 L L) (N o108 L L))) (N (o21 P) (N o215 (N o1 L L) (N o1 L L)) (N o1 (N o226 L L) (N o1 L L)))
noncomputable def q8:BT:=N (boot_o_0 P) (N (boot_o_1 P) (N (o211 P) (q0 P) (q1 P)) (N (boot_o_5 P) (q2 P) (q3 P))) (N (boot_o_2 P) (N (boot_o_4 P) (q4 P) q5) (N (boot_o_6 P) (q6 P) (q7 P)))
noncomputable def t190 (P:Params):BT:=(q8 P)
def e487_0 (P:Params) (t:List Obj):List Obj:=(boot_o_0 P) :: (boot_o_1 P) :: (boot_o_2 P) :: (o45 P) :: (boot_o_4 P) :: (boot_o_5 P) :: (boot_o_6 P) :: (boot_o_7 P) :: (boot_o_8 P) :: (boot_o_9 P) :: (boot_o_10 P) :: o1 :: o133 :: o143 :: o74 :: t
def e487_1 (P:Params) (t:List Obj):List Obj:=o1 :: o3 :: o257 :: o1 :: o285 :: o142 :: o242 :: o77 :: o53 :: (o260 P) :: o1 :: o3 :: o126 :: o109 :: o1 :: t
def e487_2 (P:Params) (t:List Obj):List Obj:=(o21 P) :: o35 :: o90 :: o233 :: o38 :: o54 :: o53 :: (o212 P) :: o1 :: o3 :: o113 :: o185 :: o1 :: (o265 P) :: o13 :: t
def e487_3 (P:Params) (t:List Obj):List Obj:=o278 :: o215 :: o54 :: o53 :: (o188 P) :: o1 :: o3 :: o93 :: o111 :: o1 :: (o244 P) :: o252 :: o227 :: o65 :: o54 :: t
def e487_4 (P:Params) (t:List Obj):List Obj:=o53 :: (o217 P) :: o1 :: o3 :: o150 :: o34 :: o1 :: (o196 P) :: o255 :: o102 :: o225 :: o54 :: o53 :: (o170 P) :: o1 :: t
def e487_5 (P:Params) (t:List Obj):List Obj:=o3 :: o246 :: o130 :: o1 :: (o95 P) :: o205 :: o154 :: o178 :: o54 :: o53 :: (o174 P) :: o1 :: o3 :: o208 :: o92 :: t
def e487_6 (P:Params) (t:List Obj):List Obj:=o1 :: (o282 P) :: o228 :: o139 :: o226 :: o54 :: o53 :: (o17 P) :: o1 :: o3 :: o207 :: o155 :: o1 :: (o273 P) :: o12 :: t
def e487_7 (P:Params) (t:List Obj):List Obj:=o243 :: o281 :: o54 :: o53 :: (o16 P) :: o1 :: o3 :: o144 :: o57 :: o1 :: (o85 P) :: o42 :: o230 :: o108 :: o54 :: t
def e487_8 (P:Params) (t:List Obj):List Obj:=o53 :: (o91 P) :: o1 :: o3 :: o67 :: o32 :: o1 :: (o69 P) :: o193 :: o268 :: o82 :: o54 :: o53 :: (o269 P) :: o1 :: t
def e487_9 (P:Params) (t:List Obj):List Obj:=o3 :: o283 :: o59 :: o1 :: (o68 P) :: o81 :: o5 :: o159 :: o54 :: o53 :: (o72 P) :: o1 :: o3 :: o264 :: o56 :: t
def e487_10 (P:Params) (t:List Obj):List Obj:=o1 :: (o198 P) :: o24 :: o267 :: o137 :: o54 :: o53 :: (o71 P) :: o1 :: o138 :: o220 :: o224 :: o1 :: o3 :: o231 :: t
def e487_11 (P:Params) (t:List Obj):List Obj:=o1 :: o229 :: o163 :: o216 :: o175 :: (o173 P) :: o52 :: o30 :: o146 :: o54 :: o53 :: (o166 P) :: o1 :: o3 :: o29 :: t
def e487_12 (P:Params) (t:List Obj):List Obj:=o236 :: o1 :: (o279 P) :: o171 :: o110 :: o63 :: o1 :: o3 :: o158 :: o164 :: o237 :: o1 :: o3 :: o176 :: o1 :: t
def e487_13 (P:Params) (t:List Obj):List Obj:=o145 :: o116 :: o31 :: o1 :: o3 :: o270 :: o186 :: o151 :: o1 :: o3 :: o182 :: o1 :: o115 :: o190 :: o223 :: t
def e487_14 (P:Params) (t:List Obj):List Obj:=o1 :: o3 :: o99 :: o1 :: o0 :: o66 :: o249 :: o1 :: o3 :: o187 :: o1 :: o83 :: o46 :: o58 :: o1 :: t
def e487_15 (P:Params) (t:List Obj):List Obj:=o3 :: o121 :: o232 :: o219 :: o1 :: o3 :: o14 :: o129 :: o39 :: o1 :: o3 :: o179 :: o1 :: o43 :: o41 :: t
def e487_16 (P:Params) (t:List Obj):List Obj:=o181 :: o1 :: o53 :: (o37 P) :: o1 :: o253 :: o114 :: o101 :: o1 :: o3 :: o107 :: o55 :: o240 :: o1 :: o3 :: t
def e487_17 (P:Params) (t:List Obj):List Obj:=o70 :: o1 :: o258 :: o153 :: o62 :: o1 :: o3 :: o76 :: o1 :: o25 :: o26 :: o147 :: o1 :: o3 :: o184 :: t
def e487_18 (P:Params) (t:List Obj):List Obj:=o1 :: o60 :: o149 :: o105 :: o1 :: o3 :: o84 :: o1 :: o2 :: o97 :: o23 :: o1 :: o3 :: o235 :: o1 :: t
def e487_19 (P:Params) (t:List Obj):List Obj:=o213 :: o49 :: o251 :: o1 :: o3 :: o261 :: o1 :: o157 :: o239 :: o51 :: o28 :: (o36 P) :: o98 :: o254 :: o119 :: t
def e487_20 (P:Params) (t:List Obj):List Obj:=o64 :: o148 :: o1 :: o3 :: o50 :: o1 :: o134 :: o19 :: o214 :: o1 :: o3 :: o156 :: o1 :: o131 :: o274 :: t
def e487_21 (P:Params) (t:List Obj):List Obj:=o124 :: o1 :: o3 :: o202 :: o1 :: o275 :: o103 :: o78 :: o1 :: o3 :: o136 :: o247 :: o263 :: o1 :: o3 :: t
def e487_22 (P:Params) (t:List Obj):List Obj:=o245 :: o167 :: o120 :: o1 :: o3 :: o204 :: o1 :: o48 :: o168 :: o238 :: o1 :: o3 :: o277 :: o1 :: o248 :: t
def e487_23 (P:Params) (t:List Obj):List Obj:=o94 :: o22 :: o1 :: o3 :: o169 :: o1 :: o7 :: o75 :: o135 :: o1 :: o3 :: o210 :: o112 :: o180 :: o1 :: t
def e487_24 (P:Params) (t:List Obj):List Obj:=o3 :: o177 :: o276 :: o140 :: o1 :: o3 :: o234 :: o1 :: o104 :: o100 :: o206 :: o1 :: o3 :: o209 :: o1 :: t
def e487_25 (P:Params) (t:List Obj):List Obj:=o122 :: o160 :: o61 :: o1 :: o3 :: o18 :: o189 :: o272 :: o1 :: o3 :: o262 :: o1 :: o195 :: o79 :: o218 :: t
def e487_26 (P:Params) (t:List Obj):List Obj:=o1 :: o3 :: o132 :: o1 :: o20 :: o27 :: o80 :: o1 :: o3 :: o10 :: o271 :: o197 :: o1 :: o3 :: o123 :: t
def e487_27 (P:Params) (t:List Obj):List Obj:=o183 :: o201 :: t
noncomputable def e487 (P:Params):Heap:=⟨⟨(e487_0 P (e487_1 P (e487_2 P (e487_3 P (e487_4 P (e487_5 P (e487_6 P (e487_7 P (e487_8 P (e487_9 P (e487_10 P (e487_11 P (e487_12 P (e487_13 P (e487_14 P (e487_15 P (e487_16 P (e487_17 P (e487_18 P (e487_19 P (e487_20 P (e487_21 P (e487_22 P (e487_23 P (e487_24 P (e487_25 P (e487_26 P (e487_27 P []))))))))))))))))))))))))))))⟩,⟨[],[],[],0,[],[],false,#[],[],0,false,false,false,0,[2000,10,10],false,0,true,[],[],0,false⟩⟩
noncomputable def q9:BT:=N o1 (N o35 (N o3 (N (o69 P) (N o70 L L) L) (N o1 L L)) (N o54 (N o138 (N o251 L L) L) (N o58 L L))) (N o54 (N (o95 P) (N o54 (N o60 L L) L) (N o115 L L)) (N o3 (N o53 L L) (N o41 L L)))
noncomputable def q10:BT:=N o53 (N o3 (N o54 (N o3 (N o1 L L) L) (N o3 L L)) (N (o273 P) (N o163 (N o28 L L) L) (N o14 L L))) (N (o244 P) (N o3 (N (o198 P) (N o97 L L) L) (N o66 L L)) (N o54 (N o171 L L) (N o101 L L)))
noncomputable def q11:BT:=N o285 (N o54 (N (o196 P) (N o54 (N o62 L L) L) (N o145 L L)) (N o3 (N o3 (N o1 L L) L) (N o232 L L))) (N o3 (N o54 (N o3 (N o3 L L) L) (N o3 L L)) (N (o85 P) (N o29 L L) (N (o37 P) L L)))
noncomputable def q12:BT:=N o126 (N (o265 P) (N o3 (N (o68 P) (N o1 L L) L) (N o1 L L)) (N o54 (N o52 (N o119 L L) L) (N o3 L L))) (N o54 (N (o282 P) (N o54 (N o235 L L) L) (N o187 L L)) (N o3 (N o3 L L) (N o55 L L)))
noncomputable def q13:BT:=N o257 (N o233 (N o34 (N o268 (N o258 L L) L) (N o176 L L)) (N (o17 P) (N o224 (N o3 L L) L) (N o3 L L))) (N (o188 P) (N o154 (N (o72 P) (N o105 L L) L) (N o223 L L)) (N o57 (N o1 L L) (N o1 L L)))
noncomputable def q14:BT:=N o1 (N o185 (N (o170 P) (N o59 (N o26 L L) L) (N o186 L L)) (N o243 (N o175 (N o98 L L) L) (N o39 L L))) (N o227 (N o92 (N o267 (N o1 L L) L) (N o1 L L)) (N (o91 P) (N o63 L L) (N o3 L L)))
noncomputable def q15:BT:=N o242 (N (o212 P) (N o102 (N (o269 P) (N o3 L L) L) (N o31 L L)) (N o155 (N o1 (N o239 L L) L) (N o1 L L))) (N o111 (N (o174 P) (N o56 (N o1 L L) L) (N o1 L L)) (N o230 (N o1 L L) (N o253 L L)))
noncomputable def q16:BT:=N o1 (N o278 (N o130 (N o5 (N o184 L L) L) (N o182 L L)) (N (o16 P) (N o146 (N o148 L L) L) (N o1 L L))) (N (o217 P) (N o139 (N (o71 P) (N o213 L L) L) (N o83 L L)) (N o32 (N o164 L L) (N o1 L L)))
noncomputable def q17:BT:=N (boot_o_1 P) (N (o127 P) (N (boot_o_7 P) (q9 P) (q10 P)) (N o1 (q11 P) (q12 P))) (N (boot_o_5 P) (N (boot_o_9 P) (q13 P) (q14 P)) (N o143 (q15 P) (q16 P)))
noncomputable def q18:BT:=N o3 (N o90 (N o150 (N o193 (N o1 L L) L) (N o3 L L)) (N o53 (N o220 (N o1 L L) L) (N o1 L L))) (N o53 (N o205 (N o53 (N o149 L L) L) (N o190 L L)) (N o144 (N (o166 P) L L) (N o181 L L)))
noncomputable def q19:BT:=N (o260 P) (N o113 (N o53 (N o283 (N o25 L L) L) (N o270 L L)) (N o12 (N o216 (N (o36 P) L L) L) (N o129 L L))) (N o252 (N o208 (N o24 (N o23 L L) L) (N o249 L L)) (N o53 (N o110 L L) (N o1 L L)))
noncomputable def q20:BT:=N o142 (N o53 (N o255 (N o53 (N o1 L L) L) (N o116 L L)) (N o207 (N o231 (N o157 L L) L) (N o219 L L))) (N o93 (N o53 (N o264 (N o84 L L) L) (N o99 L L)) (N o42 (N o236 L L) (N o1 L L)))
noncomputable def q21:BT:=N o109 (N o13 (N o246 (N o81 (N o3 L L) L) (N o3 L L)) (N o53 (N o30 (N o64 L L) L) (N o179 L L))) (N o53 (N o228 (N o53 (N o1 L L) L) (N o1 L L)) (N o67 (N o158 L L) (N o240 L L)))
noncomputable def q22:BT:=N o1 (N o38 (N o1 (N o82 (N o153 L L) L) (N o1 L L)) (N o1 (N o1 (N o261 L L) L) (N o121 L L))) (N o1 (N o178 (N o1 (N o1 L L) L) (N o1 L L)) (N o1 (N o3 L L) (N o53 L L)))
noncomputable def q23:BT:=N o3 (N o1 (N o1 (N o1 (N o147 L L) L) (N o151 L L)) (N o281 (N (o173 P) (N o254 L L) L) (N o1 L L))) (N o65 (N o1 (N o137 (N o3 L L) L) (N o3 L L)) (N o1 (N o1 L L) (N o107 L L)))
noncomputable def q24:BT:=N o77 (N o1 (N o225 (N o1 (N o76 L L) L) (N o1 L L)) (N o1 (N o229 (N o51 L L) L) (N o3 L L))) (N o1 (N o1 (N o1 (N o2 L L) L) (N o0 L L)) (N o108 (N (o279 P) L L) (N o114 L L)))
noncomputable def q25:BT:=N (o21 P) (N o215 (N o1 (N o159 (N o1 L L) L) (N o1 L L)) (N o1 (N o54 L L) (N o43 L L))) (N o1 (N o226 (N o1 (N o49 L L) L) (N o46 L L)) (N o1 (N o237 L L) (N o3 L L)))
noncomputable def q26:BT:=N (boot_o_2 P) (N (boot_o_4 P) (N (boot_o_8 P) (q18 P) (q19 P)) (N o200 q20 q21)) (N (boot_o_6 P) (N (boot_o_10 P) q22 (q23 P)) (N o74 (q24 P) (q25 P)))
noncomputable def t377 (P:Params):BT:=(N (boot_o_0 P) (q17 P) (q26 P))
noncomputable def q27:BT:=N (o165 P) (N (boot_o_7 P) (N o1 (N o203 L L) L) (N o53 (N o3 L L) L)) (N o1 (N o285 (N o54 L L) L) (N o126 (N (o265 P) L L) L))
noncomputable def q28:BT:=N (boot_o_5 P) (N (boot_o_9 P) (N o257 (N o233 L L) L) (N o1 (N o185 L L) L)) (N o143 (N o242 (N (o212 P) L L) L) (N o1 (N o278 L L) L))
noncomputable def q29:BT:=N (boot_o_4 P) (N (boot_o_8 P) (N o3 (N o90 L L) L) (N (o260 P) (N o113 L L) L)) (N o4 (N o142 (N o53 L L) L) (N o109 (N o13 L L) L))
noncomputable def q30:BT:=N (boot_o_6 P) (N (boot_o_10 P) (N o1 (N o38 L L) L) (N o3 (N o1 L L) L)) (N o74 (N o77 (N o1 L L) L) (N (o21 P) (N o215 L L) L))
noncomputable def t85 (P:Params):BT:=(N (boot_o_0 P) (N (boot_o_1 P) (q27 P) (q28 P)) (N (boot_o_2 P) (q29 P) (q30 P)))
noncomputable def q31:BT:=N (boot_o_7 P) (N o1 (N o199 (N o3 (N (o69 P) L L) L) (N o54 L L)) (N o54 (N (o95 P) (N o54 L L) L) (N o3 L L))) (N o53 (N o3 (N o54 (N o3 L L) L) (N (o273 P) L L)) (N (o244 P) (N o3 (N (o198 P) L L) L) (N o54 L L)))
noncomputable def q32:BT:=N o1 (N o285 (N o54 (N (o196 P) (N o54 L L) L) (N o3 L L)) (N o3 (N o54 (N o3 L L) L) (N (o85 P) L L))) (N o126 (N (o265 P) (N o3 (N (o68 P) L L) L) (N o54 L L)) (N o54 (N (o282 P) L L) (N o3 L L)))
noncomputable def q33:BT:=N (boot_o_9 P) (N o257 (N o233 (N o34 (N o268 L L) L) (N (o17 P) L L)) (N (o188 P) (N o154 (N (o72 P) L L) L) (N o57 L L))) (N o1 (N o185 (N (o170 P) (N o59 L L) L) (N o243 L L)) (N o227 (N o92 (N o267 L L) L) (N (o91 P) L L)))
noncomputable def q34:BT:=N o143 (N o242 (N (o212 P) (N o102 (N (o269 P) L L) L) (N o155 L L)) (N o111 (N (o174 P) (N o56 L L) L) (N o230 L L))) (N o1 (N o278 (N o130 (N o5 L L) L) (N (o16 P) L L)) (N (o217 P) (N o139 L L) (N o32 L L)))
noncomputable def q35:BT:=N (boot_o_8 P) (N o3 (N o90 (N o150 (N o193 L L) L) (N o53 L L)) (N o53 (N o205 (N o53 L L) L) (N o144 L L))) (N (o260 P) (N o113 (N o53 (N o283 L L) L) (N o12 L L)) (N o252 (N o208 (N o24 L L) L) (N o53 L L)))
noncomputable def q36:BT:=N o162 (N o142 (N o53 (N o255 (N o53 L L) L) (N o207 L L)) (N o93 (N o53 (N o264 L L) L) (N o42 L L))) (N o109 (N o13 (N o246 (N o81 L L) L) (N o53 L L)) (N o53 (N o228 L L) (N o67 L L)))
noncomputable def q37:BT:=N (boot_o_10 P) (N o1 (N o38 (N o1 (N o82 L L) L) (N o1 L L)) (N o1 (N o178 (N o1 L L) L) (N o1 L L))) (N o3 (N o1 (N o1 (N o1 L L) L) (N o281 L L)) (N o65 (N o1 (N o137 L L) L) (N o1 L L)))
noncomputable def q38:BT:=N o74 (N o77 (N o1 (N o225 (N o1 L L) L) (N o1 L L)) (N o1 (N o1 (N o1 L L) L) (N o108 L L))) (N (o21 P) (N o215 (N o1 (N o159 L L) L) (N o1 L L)) (N o1 (N o226 L L) (N o1 L L)))
noncomputable def q39:BT:=N (boot_o_0 P) (N (boot_o_1 P) (N (o89 P) (q31 P) (q32 P)) (N (boot_o_5 P) (q33 P) (q34 P))) (N (boot_o_2 P) (N (boot_o_4 P) (q35 P) q36) (N (boot_o_6 P) (q37 P) (q38 P)))
noncomputable def t220 (P:Params):BT:=(q39 P)
noncomputable def q40:BT:=N o1 (N o125 (N o3 (N (o69 P) L L) L) (N o54 (N o138 L L) L)) (N o54 (N (o95 P) (N o54 L L) L) (N o3 L L))
noncomputable def q41:BT:=N o53 (N o3 (N o54 (N o3 L L) L) (N (o273 P) (N o163 L L) L)) (N (o244 P) (N o3 (N (o198 P) L L) L) (N o54 L L))
noncomputable def q42:BT:=N o285 (N o54 (N (o196 P) (N o54 L L) L) (N o3 (N o3 L L) L)) (N o3 (N o54 (N o3 L L) L) (N (o85 P) L L))
noncomputable def q43:BT:=N o126 (N (o265 P) (N o3 (N (o68 P) L L) L) (N o54 (N o52 L L) L)) (N o54 (N (o282 P) (N o54 L L) L) (N o3 L L))
noncomputable def q44:BT:=N o257 (N o233 (N o34 (N o268 L L) L) (N (o17 P) (N o224 L L) L)) (N (o188 P) (N o154 (N (o72 P) L L) L) (N o57 L L))
noncomputable def q45:BT:=N o1 (N o185 (N (o170 P) (N o59 L L) L) (N o243 (N o175 L L) L)) (N o227 (N o92 (N o267 L L) L) (N (o91 P) L L))
noncomputable def q46:BT:=N o242 (N (o212 P) (N o102 (N (o269 P) L L) L) (N o155 (N o1 L L) L)) (N o111 (N (o174 P) (N o56 L L) L) (N o230 L L))
noncomputable def q47:BT:=N o1 (N o278 (N o130 (N o5 L L) L) (N (o16 P) (N o146 L L) L)) (N (o217 P) (N o139 (N (o71 P) L L) L) (N o32 L L))
noncomputable def q48:BT:=N (boot_o_1 P) (N (o117 P) (N (boot_o_7 P) (q40 P) (q41 P)) (N o1 (q42 P) (q43 P))) (N (boot_o_5 P) (N (boot_o_9 P) (q44 P) (q45 P)) (N o143 (q46 P) (q47 P)))
noncomputable def q49:BT:=N o3 (N o90 (N o150 (N o193 L L) L) (N o53 (N o220 L L) L)) (N o53 (N o205 (N o53 L L) L) (N o144 L L))
noncomputable def q50:BT:=N (o260 P) (N o113 (N o53 (N o283 L L) L) (N o12 (N o216 L L) L)) (N o252 (N o208 (N o24 L L) L) (N o53 L L))
noncomputable def q51:BT:=N o142 (N o53 (N o255 (N o53 L L) L) (N o207 (N o231 L L) L)) (N o93 (N o53 (N o264 L L) L) (N o42 L L))
noncomputable def q52:BT:=N o109 (N o13 (N o246 (N o81 L L) L) (N o53 (N o30 L L) L)) (N o53 (N o228 (N o53 L L) L) (N o67 L L))
noncomputable def q53:BT:=N o1 (N o38 (N o1 (N o82 L L) L) (N o1 (N o1 L L) L)) (N o1 (N o178 (N o1 L L) L) (N o1 L L))
noncomputable def q54:BT:=N o3 (N o1 (N o1 (N o1 L L) L) (N o281 (N (o173 P) L L) L)) (N o65 (N o1 (N o137 L L) L) (N o1 L L))
noncomputable def q55:BT:=N o77 (N o1 (N o225 (N o1 L L) L) (N o1 (N o229 L L) L)) (N o1 (N o1 (N o1 L L) L) (N o108 L L))
noncomputable def q56:BT:=N o74 q55 (N (o21 P) (N o215 (N o1 (N o159 L L) L) (N o1 L L)) (N o1 (N o226 (N o1 L L) L) (N o1 L L)))
noncomputable def q57:BT:=N (boot_o_2 P) (N (boot_o_4 P) (N (boot_o_8 P) q49 (q50 P)) (N o96 q51 q52)) (N (boot_o_6 P) (N (boot_o_10 P) q53 (q54 P)) (q56 P))
noncomputable def t242 (P:Params):BT:=(N (boot_o_0 P) (q48 P) (q57 P))
noncomputable def q58:BT:=N o35 (N o3 (N (o69 P) (N o70 L L) (N o1 L L)) (N o1 (N o1 L L) L)) (N o54 (N o138 (N o251 L L) L) (N o58 (N o7 L L) L))
noncomputable def q59:BT:=N o54 (N (o95 P) (N o54 (N o60 L L) (N o10 L L)) (N o115 (N o204 L L) L)) (N o3 (N o53 (N o3 L L) L) (N o41 (N o1 L L) L))
noncomputable def q60:BT:=N o3 (N o54 (N o3 (N o1 L L) (N o3 L L)) (N o3 (N o263 L L) L)) (N (o273 P) (N o163 (N o28 L L) L) (N o14 (N o1 L L) L))
noncomputable def q61:BT:=N (o244 P) (N o3 (N (o198 P) (N o97 L L) L) (N o66 (N o1 L L) L)) (N o54 (N o171 (N o156 L L) L) (N o101 (N o122 L L) L))
noncomputable def q62:BT:=N o54 (N (o196 P) (N o54 (N o62 L L) (N o195 L L)) (N o145 (N o1 L L) L)) (N o3 (N o3 (N o1 L L) L) (N o232 (N o3 L L) L))
noncomputable def q63:BT:=N o3 (N o54 (N o3 (N o3 L L) (N o3 L L)) (N o3 (N o238 L L) L)) (N (o85 P) (N o29 (N o19 L L) L) (N (o37 P) (N o1 L L) L))
noncomputable def q64:BT:=N (o265 P) (N o3 (N (o68 P) (N o1 L L) (N o27 L L)) (N o1 (N o167 L L) L)) (N o54 (N o52 (N o119 L L) L) (N o3 (N o140 L L) L))
noncomputable def q65:BT:=N o54 (N (o282 P) (N o54 (N o235 L L) L) (N o187 (N o1 L L) L)) (N o3 (N o3 (N o124 L L) L) (N o55 (N o3 L L) L))
noncomputable def q66:BT:=N (o45 P) (N (boot_o_7 P) (N o1 (q58 P) (q59 P)) (N o53 (q60 P) (q61 P))) (N o1 (N o285 (q62 P) (q63 P)) (N o126 (q64 P) (q65 P)))
noncomputable def q67:BT:=N o233 (N o34 (N o268 (N o258 L L) (N o262 L L)) (N o176 (N o103 L L) L)) (N (o17 P) (N o224 (N o3 L L) L) (N o3 (N o135 L L) L))
noncomputable def q68:BT:=N (o188 P) (N o154 (N (o72 P) (N o105 L L) (N o197 L L)) (N o223 (N o48 L L) L)) (N o57 (N o1 (N o1 L L) L) (N o1 (N o100 L L) L))
noncomputable def q69:BT:=N o185 (N (o170 P) (N o59 (N o26 L L) (N o1 L L)) (N o186 (N o3 L L) L)) (N o243 (N o175 (N o98 L L) L) (N o39 (N o177 L L) L))
noncomputable def q70:BT:=N o227 (N o92 (N o267 (N o1 L L) L) (N o1 (N o94 L L) L)) (N (o91 P) (N o63 (N o131 L L) L) (N o3 (N o61 L L) L))
noncomputable def q71:BT:=N (o212 P) (N o102 (N (o269 P) (N o3 L L) (N o218 L L)) (N o31 (N o136 L L) L)) (N o155 (N o1 (N o239 L L) L) (N o1 (N o112 L L) L))
noncomputable def q72:BT:=N o111 (N (o174 P) (N o56 (N o1 L L) (N o183 L L)) (N o1 (N o3 L L) L)) (N o230 (N o1 (N o1 L L) L) (N o253 (N o209 L L) L))
noncomputable def q73:BT:=N o278 (N o130 (N o5 (N o184 L L) (N o1 L L)) (N o182 (N o1 L L) L)) (N (o16 P) (N o146 (N o148 L L) L) (N o1 (N o3 L L) L))
noncomputable def q74:BT:=N (o217 P) (N o139 (N (o71 P) (N o213 L L) L) (N o83 (N o169 L L) L)) (N o32 (N o164 (N o3 L L) L) (N o1 (N o189 L L) L))
noncomputable def q75:BT:=N (boot_o_5 P) (N (boot_o_9 P) (N o257 (q67 P) (q68 P)) (N o1 (q69 P) (q70 P))) (N o143 (N o242 (q71 P) (q72 P)) (N o1 (q73 P) (q74 P)))
noncomputable def q76:BT:=N o90 (N o150 (N o193 (N o1 L L) (N o3 L L)) (N o3 (N o275 L L) L)) (N o53 (N o220 (N o1 L L) L) (N o1 (N o75 L L) L))
noncomputable def q77:BT:=N o53 (N o205 (N o53 (N o149 L L) (N o271 L L)) (N o190 (N o1 L L) L)) (N o144 (N (o166 P) (N o50 L L) L) (N o181 (N o104 L L) L))
noncomputable def q78:BT:=N o113 (N o53 (N o283 (N o25 L L) (N o132 L L)) (N o270 (N o1 L L) L)) (N o12 (N o216 (N (o36 P) L L) L) (N o129 (N o3 L L) L))
noncomputable def q79:BT:=N o252 (N o208 (N o24 (N o23 L L) L) (N o249 (N o248 L L) L)) (N o53 (N o110 (N o1 L L) L) (N o1 (N o160 L L) L))
noncomputable def q80:BT:=N o53 (N o255 (N o53 (N o1 L L) (N o79 L L)) (N o116 (N o3 L L) L)) (N o207 (N o231 (N o157 L L) L) (N o219 (N o210 L L) L))
noncomputable def q81:BT:=N o93 (N o53 (N o264 (N o84 L L) (N o123 L L)) (N o99 (N o1 L L) L)) (N o42 (N o236 (N o214 L L) L) (N o1 (N o3 L L) L))
noncomputable def q82:BT:=N o13 (N o246 (N o81 (N o3 L L) (N o80 L L)) (N o3 (N o120 L L) L)) (N o53 (N o30 (N o64 L L) L) (N o179 (N o1 L L) L))
noncomputable def q83:BT:=N o53 (N o228 (N o53 (N o1 L L) L) (N o1 (N o3 L L) L)) (N o67 (N o158 (N o1 L L) L) (N o240 (N o18 L L) L))
noncomputable def q84:BT:=N (boot_o_4 P) (N (boot_o_8 P) (N o3 q76 (q77 P)) (N (o260 P) (q78 P) q79)) (N o133 (N o142 q80 q81) (N o109 q82 q83))
noncomputable def q85:BT:=N o38 (N o1 (N o82 (N o153 L L) (N o1 L L)) (N o1 (N o78 L L) L)) (N o1 (N o1 (N o261 L L) L) (N o121 (N o1 L L) L))
noncomputable def q86:BT:=N o1 (N o178 (N o1 (N o1 L L) (N o1 L L)) (N o1 (N o168 L L) L)) (N o1 (N o3 (N o134 L L) L) (N o53 (N o206 L L) L))
noncomputable def q87:BT:=N o1 (N o1 (N o1 (N o147 L L) (N o20 L L)) (N o151 (N o245 L L) L)) (N o281 (N (o173 P) (N o254 L L) L) (N o1 (N o276 L L) L))
noncomputable def q88:BT:=N o65 (N o1 (N o137 (N o3 L L) L) (N o3 (N o22 L L) L)) (N o1 (N o1 (N o274 L L) L) (N o107 (N o1 L L) L))
noncomputable def q89:BT:=N o1 (N o225 (N o1 (N o76 L L) (N o1 L L)) (N o1 (N o247 L L) L)) (N o1 (N o229 (N o51 L L) L) (N o3 (N o180 L L) L))
noncomputable def q90:BT:=N o1 (N o1 (N o1 (N o2 L L) (N o201 L L)) (N o0 (N o277 L L) L)) (N o108 (N (o279 P) (N o3 L L) L) (N o114 (N o1 L L) L))
noncomputable def q91:BT:=N o215 (N o1 (N o159 (N o1 L L) (N o3 L L)) (N o1 (N o3 L L) L)) (N o1 (N o54 (N o1 L L) L) (N o43 (N o234 L L) L))
noncomputable def q92:BT:=N o1 (N o226 (N o1 (N o49 L L) L) (N o46 (N o1 L L) L)) (N o1 (N o237 (N o202 L L) L) (N o3 (N o272 L L) L))
noncomputable def q93:BT:=N (boot_o_6 P) (N (boot_o_10 P) (N o1 q85 q86) (N o3 (q87 P) q88)) (N o74 (N o77 q89 (q90 P)) (N (o21 P) q91 q92))
noncomputable def t486 (P:Params):BT:=(N (boot_o_0 P) (N (boot_o_1 P) (q66 P) (q75 P)) (N (boot_o_2 P) (q84 P) (q93 P)))
noncomputable def q94:BT:=N (boot_o_7 P) (N o1 (N o9 (N o3 L L) (N o54 L L)) (N o54 (N (o95 P) L L) (N o3 L L))) (N o53 (N o3 (N o54 L L) (N (o273 P) L L)) (N (o244 P) (N o3 L L) L))
noncomputable def q95:BT:=N o1 (N o285 (N o54 (N (o196 P) L L) (N o3 L L)) (N o3 (N o54 L L) (N (o85 P) L L))) (N o126 (N (o265 P) (N o3 L L) (N o54 L L)) (N o54 (N (o282 P) L L) L))
noncomputable def q96:BT:=N (boot_o_9 P) (N o257 (N o233 (N o34 L L) (N (o17 P) L L)) (N (o188 P) (N o154 L L) (N o57 L L))) (N o1 (N o185 (N (o170 P) L L) (N o243 L L)) (N o227 (N o92 L L) L))
noncomputable def q97:BT:=N o143 (N o242 (N (o212 P) (N o102 L L) (N o155 L L)) (N o111 (N (o174 P) L L) (N o230 L L))) (N o1 (N o278 (N o130 L L) (N (o16 P) L L)) (N (o217 P) (N o139 L L) L))
noncomputable def q98:BT:=N (boot_o_8 P) (N o3 (N o90 (N o150 L L) (N o53 L L)) (N o53 (N o205 L L) (N o144 L L))) (N (o260 P) (N o113 (N o53 L L) (N o12 L L)) (N o252 (N o208 L L) L))
noncomputable def q99:BT:=N o266 (N o142 (N o53 (N o255 L L) (N o207 L L)) (N o93 (N o53 L L) (N o42 L L))) (N o109 (N o13 (N o246 L L) (N o53 L L)) (N o53 (N o228 L L) L))
noncomputable def q100:BT:=N (boot_o_10 P) (N o1 (N o38 (N o1 L L) (N o1 L L)) (N o1 (N o178 L L) (N o1 L L))) (N o3 (N o1 (N o1 L L) (N o281 L L)) (N o65 (N o1 L L) L))
noncomputable def q101:BT:=N o74 (N o77 (N o1 (N o225 L L) (N o1 L L)) (N o1 (N o1 L L) (N o108 L L))) (N (o21 P) (N o215 (N o1 L L) (N o1 L L)) (N o1 (N o226 L L) L))
noncomputable def q102:BT:=N (boot_o_0 P) (N (boot_o_1 P) (N (o192 P) (q94 P) (q95 P)) (N (boot_o_5 P) (q96 P) (q97 P))) (N (boot_o_2 P) (N (boot_o_4 P) (q98 P) q99) (N (boot_o_6 P) (q100 P) (q101 P)))
noncomputable def t175 (P:Params):BT:=(q102 P)
noncomputable def q103:BT:=N o1 (N o35 (N o3 (N (o69 P) L L) (N o1 L L)) (N o54 (N o138 L L) L)) (N o54 (N (o95 P) (N o54 L L) (N o115 L L)) (N o3 (N o53 L L) L))
noncomputable def q104:BT:=N o53 (N o3 (N o54 (N o3 L L) (N o3 L L)) (N (o273 P) (N o163 L L) L)) (N (o244 P) (N o3 (N (o198 P) L L) (N o66 L L)) (N o54 (N o171 L L) L))
noncomputable def q105:BT:=N o285 (N o54 (N (o196 P) (N o54 L L) (N o145 L L)) (N o3 (N o3 L L) L)) (N o3 (N o54 (N o3 L L) (N o3 L L)) (N (o85 P) (N o29 L L) L))
noncomputable def q106:BT:=N o126 (N (o265 P) (N o3 (N (o68 P) L L) (N o1 L L)) (N o54 (N o52 L L) L)) (N o54 (N (o282 P) (N o54 L L) L) (N o3 (N o3 L L) L))
noncomputable def q107:BT:=N o257 (N o233 (N o34 (N o268 L L) (N o176 L L)) (N (o17 P) (N o224 L L) L)) (N (o188 P) (N o154 (N (o72 P) L L) (N o223 L L)) (N o57 (N o1 L L) L))
noncomputable def q108:BT:=N o1 (N o185 (N (o170 P) (N o59 L L) (N o186 L L)) (N o243 (N o175 L L) L)) (N o227 (N o92 (N o267 L L) L) (N (o91 P) (N o63 L L) L))
noncomputable def q109:BT:=N o242 (N (o212 P) (N o102 (N (o269 P) L L) (N o31 L L)) (N o155 (N o1 L L) L)) (N o111 (N (o174 P) (N o56 L L) (N o1 L L)) (N o230 (N o1 L L) L))
noncomputable def q110:BT:=N o1 (N o278 (N o130 (N o5 L L) (N o182 L L)) (N (o16 P) (N o146 L L) L)) (N (o217 P) (N o139 (N (o71 P) L L) L) (N o32 (N o164 L L) L))
noncomputable def q111:BT:=N (boot_o_1 P) (N (o6 P) (N (boot_o_7 P) (q103 P) (q104 P)) (N o1 (q105 P) (q106 P))) (N (boot_o_5 P) (N (boot_o_9 P) (q107 P) (q108 P)) (N o143 (q109 P) (q110 P)))
noncomputable def q112:BT:=N o3 (N o90 (N o150 (N o193 L L) (N o3 L L)) (N o53 (N o220 L L) L)) (N o53 (N o205 (N o53 L L) (N o190 L L)) (N o144 (N (o166 P) L L) L))
noncomputable def q113:BT:=N (o260 P) (N o113 (N o53 (N o283 L L) (N o270 L L)) (N o12 (N o216 L L) L)) (N o252 (N o208 (N o24 L L) (N o249 L L)) (N o53 (N o110 L L) L))
noncomputable def q114:BT:=N o142 (N o53 (N o255 (N o53 L L) (N o116 L L)) (N o207 (N o231 L L) L)) (N o93 (N o53 (N o264 L L) (N o99 L L)) (N o42 (N o236 L L) L))
noncomputable def q115:BT:=N o109 (N o13 (N o246 (N o81 L L) (N o3 L L)) (N o53 (N o30 L L) L)) (N o53 (N o228 (N o53 L L) L) (N o67 (N o158 L L) L))
noncomputable def q116:BT:=N o1 (N o38 (N o1 (N o82 L L) (N o1 L L)) (N o1 (N o1 L L) L)) (N o1 (N o178 (N o1 L L) (N o1 L L)) (N o1 (N o3 L L) L))
noncomputable def q117:BT:=N o3 (N o1 (N o1 (N o1 L L) (N o151 L L)) (N o281 (N (o173 P) L L) L)) (N o65 (N o1 (N o137 L L) L) (N o1 (N o1 L L) L))
noncomputable def q118:BT:=N o77 (N o1 (N o225 (N o1 L L) (N o1 L L)) (N o1 (N o229 L L) L)) (N o1 (N o1 (N o1 L L) (N o0 L L)) (N o108 (N (o279 P) L L) L))
noncomputable def q119:BT:=N (o21 P) (N o215 (N o1 (N o159 L L) (N o1 L L)) (N o1 (N o54 L L) L)) (N o1 (N o226 (N o1 L L) L) (N o1 (N o237 L L) L))
noncomputable def q120:BT:=N (boot_o_2 P) (N (boot_o_4 P) (N (boot_o_8 P) (q112 P) (q113 P)) (N o259 q114 q115)) (N (boot_o_6 P) (N (boot_o_10 P) q116 (q117 P)) (N o74 (q118 P) (q119 P)))
noncomputable def t288 (P:Params):BT:=(N (boot_o_0 P) (q111 P) (q120 P))
noncomputable def q121:BT:=N (boot_o_7 P) (N o1 (N o194 (N o3 (N (o69 P) L L) L) (N o54 L L)) (N o54 (N (o95 P) L L) (N o3 L L))) (N o53 (N o3 (N o54 (N o3 L L) L) (N (o273 P) L L)) (N (o244 P) (N o3 L L) (N o54 L L)))
noncomputable def q122:BT:=N o1 (N o285 (N o54 (N (o196 P) (N o54 L L) L) (N o3 L L)) (N o3 (N o54 L L) (N (o85 P) L L))) (N o126 (N (o265 P) (N o3 (N (o68 P) L L) L) (N o54 L L)) (N o54 (N (o282 P) L L) (N o3 L L)))
noncomputable def q123:BT:=N (boot_o_9 P) (N o257 (N o233 (N o34 (N o268 L L) L) (N (o17 P) L L)) (N (o188 P) (N o154 L L) (N o57 L L))) (N o1 (N o185 (N (o170 P) (N o59 L L) L) (N o243 L L)) (N o227 (N o92 L L) (N (o91 P) L L)))
noncomputable def q124:BT:=N o143 (N o242 (N (o212 P) (N o102 (N (o269 P) L L) L) (N o155 L L)) (N o111 (N (o174 P) L L) (N o230 L L))) (N o1 (N o278 (N o130 (N o5 L L) L) (N (o16 P) L L)) (N (o217 P) (N o139 L L) (N o32 L L)))
noncomputable def q125:BT:=N (boot_o_8 P) (N o3 (N o90 (N o150 (N o193 L L) L) (N o53 L L)) (N o53 (N o205 L L) (N o144 L L))) (N (o260 P) (N o113 (N o53 (N o283 L L) L) (N o12 L L)) (N o252 (N o208 L L) (N o53 L L)))
noncomputable def q126:BT:=N o152 (N o142 (N o53 (N o255 (N o53 L L) L) (N o207 L L)) (N o93 (N o53 L L) (N o42 L L))) (N o109 (N o13 (N o246 (N o81 L L) L) (N o53 L L)) (N o53 (N o228 L L) (N o67 L L)))
noncomputable def q127:BT:=N (boot_o_10 P) (N o1 (N o38 (N o1 (N o82 L L) L) (N o1 L L)) (N o1 (N o178 L L) (N o1 L L))) (N o3 (N o1 (N o1 (N o1 L L) L) (N o281 L L)) (N o65 (N o1 L L) (N o1 L L)))
noncomputable def q128:BT:=N o74 (N o77 (N o1 (N o225 (N o1 L L) L) (N o1 L L)) (N o1 (N o1 L L) (N o108 L L))) (N (o21 P) (N o215 (N o1 (N o159 L L) L) (N o1 L L)) (N o1 (N o226 L L) (N o1 L L)))
noncomputable def q129:BT:=N (boot_o_0 P) (N (boot_o_1 P) (N (o161 P) (q121 P) (q122 P)) (N (boot_o_5 P) (q123 P) (q124 P))) (N (boot_o_2 P) (N (boot_o_4 P) (q125 P) q126) (N (boot_o_6 P) (q127 P) (q128 P)))
noncomputable def t205 (P:Params):BT:=(q129 P)
noncomputable def q130:BT:=N o1 (N o35 (N o3 (N (o69 P) L L) (N o1 L L)) (N o54 (N o138 L L) (N o58 L L))) (N o54 (N (o95 P) (N o54 L L) (N o115 L L)) (N o3 (N o53 L L) (N o41 L L)))
noncomputable def q131:BT:=N o53 (N o3 (N o54 (N o3 L L) (N o3 L L)) (N (o273 P) (N o163 L L) (N o14 L L))) (N (o244 P) (N o3 (N (o198 P) L L) (N o66 L L)) (N o54 (N o171 L L) L))
noncomputable def q132:BT:=N o285 (N o54 (N (o196 P) (N o54 L L) (N o145 L L)) (N o3 (N o3 L L) (N o232 L L))) (N o3 (N o54 (N o3 L L) (N o3 L L)) (N (o85 P) (N o29 L L) L))
noncomputable def q133:BT:=N o126 (N (o265 P) (N o3 (N (o68 P) L L) (N o1 L L)) (N o54 (N o52 L L) (N o3 L L))) (N o54 (N (o282 P) (N o54 L L) (N o187 L L)) (N o3 (N o3 L L) L))
noncomputable def q134:BT:=N o257 (N o233 (N o34 (N o268 L L) (N o176 L L)) (N (o17 P) (N o224 L L) (N o3 L L))) (N (o188 P) (N o154 (N (o72 P) L L) (N o223 L L)) (N o57 (N o1 L L) L))
noncomputable def q135:BT:=N o1 (N o185 (N (o170 P) (N o59 L L) (N o186 L L)) (N o243 (N o175 L L) (N o39 L L))) (N o227 (N o92 (N o267 L L) (N o1 L L)) (N (o91 P) (N o63 L L) L))
noncomputable def q136:BT:=N o242 (N (o212 P) (N o102 (N (o269 P) L L) (N o31 L L)) (N o155 (N o1 L L) (N o1 L L))) (N o111 (N (o174 P) (N o56 L L) (N o1 L L)) (N o230 (N o1 L L) L))
noncomputable def q137:BT:=N o1 (N o278 (N o130 (N o5 L L) (N o182 L L)) (N (o16 P) (N o146 L L) (N o1 L L))) (N (o217 P) (N o139 (N (o71 P) L L) (N o83 L L)) (N o32 (N o164 L L) L))
noncomputable def q138:BT:=N (boot_o_1 P) (N (o73 P) (N (boot_o_7 P) (q130 P) (q131 P)) (N o1 (q132 P) (q133 P))) (N (boot_o_5 P) (N (boot_o_9 P) (q134 P) (q135 P)) (N o143 (q136 P) (q137 P)))
noncomputable def q139:BT:=N o3 (N o90 (N o150 (N o193 L L) (N o3 L L)) (N o53 (N o220 L L) (N o1 L L))) (N o53 (N o205 (N o53 L L) (N o190 L L)) (N o144 (N (o166 P) L L) (N o181 L L)))
noncomputable def q140:BT:=N (o260 P) (N o113 (N o53 (N o283 L L) (N o270 L L)) (N o12 (N o216 L L) (N o129 L L))) (N o252 (N o208 (N o24 L L) (N o249 L L)) (N o53 (N o110 L L) L))
noncomputable def q141:BT:=N o142 (N o53 (N o255 (N o53 L L) (N o116 L L)) (N o207 (N o231 L L) (N o219 L L))) (N o93 (N o53 (N o264 L L) (N o99 L L)) (N o42 (N o236 L L) L))
noncomputable def q142:BT:=N o109 (N o13 (N o246 (N o81 L L) (N o3 L L)) (N o53 (N o30 L L) (N o179 L L))) (N o53 (N o228 (N o53 L L) (N o1 L L)) (N o67 (N o158 L L) L))
noncomputable def q143:BT:=N o1 (N o38 (N o1 (N o82 L L) (N o1 L L)) (N o1 (N o1 L L) (N o121 L L))) (N o1 (N o178 (N o1 L L) (N o1 L L)) (N o1 (N o3 L L) L))
noncomputable def q144:BT:=N o3 (N o1 (N o1 (N o1 L L) (N o151 L L)) (N o281 (N (o173 P) L L) (N o1 L L))) (N o65 (N o1 (N o137 L L) (N o3 L L)) (N o1 (N o1 L L) L))
noncomputable def q145:BT:=N o77 (N o1 (N o225 (N o1 L L) (N o1 L L)) (N o1 (N o229 L L) (N o3 L L))) (N o1 (N o1 (N o1 L L) (N o0 L L)) (N o108 (N (o279 P) L L) L))
noncomputable def q146:BT:=N (o21 P) (N o215 (N o1 (N o159 L L) (N o1 L L)) (N o1 (N o54 L L) (N o43 L L))) (N o1 (N o226 (N o1 L L) (N o46 L L)) (N o1 (N o237 L L) L))
noncomputable def q147:BT:=N (boot_o_2 P) (N (boot_o_4 P) (N (boot_o_8 P) (q139 P) (q140 P)) (N o15 q141 q142)) (N (boot_o_6 P) (N (boot_o_10 P) q143 (q144 P)) (N o74 (q145 P) (q146 P)))
noncomputable def t314 (P:Params):BT:=(N (boot_o_0 P) (q138 P) (q147 P))
noncomputable def q148:BT:=N (o256 P) (N (boot_o_7 P) (N o1 (N o172 L L) (N o54 L L)) (N o53 (N o3 L L) (N (o244 P) L L))) (N o1 (N o285 (N o54 L L) (N o3 L L)) (N o126 (N (o265 P) L L) L))
noncomputable def q149:BT:=N (boot_o_5 P) (N (boot_o_9 P) (N o257 (N o233 L L) (N (o188 P) L L)) (N o1 (N o185 L L) (N o227 L L))) (N o143 (N o242 (N (o212 P) L L) (N o111 L L)) (N o1 (N o278 L L) L))
noncomputable def q150:BT:=N (boot_o_4 P) (N (boot_o_8 P) (N o3 (N o90 L L) (N o53 L L)) (N (o260 P) (N o113 L L) (N o252 L L))) (N o241 (N o142 (N o53 L L) (N o93 L L)) (N o109 (N o13 L L) L))
noncomputable def q151:BT:=N (boot_o_6 P) (N (boot_o_10 P) (N o1 (N o38 L L) (N o1 L L)) (N o3 (N o1 L L) (N o65 L L))) (N o74 (N o77 (N o1 L L) (N o1 L L)) (N (o21 P) (N o215 L L) L))
noncomputable def t100 (P:Params):BT:=(N (boot_o_0 P) (N (boot_o_1 P) (q148 P) (q149 P)) (N (boot_o_2 P) (q150 P) (q151 P)))
noncomputable def q152:BT:=N (o87 P) (N (boot_o_7 P) (N o1 (N o47 (N o3 L L) L) (N o54 L L)) (N o53 (N o3 L L) (N (o244 P) L L))) (N o1 (N o285 (N o54 (N (o196 P) L L) L) (N o3 L L)) (N o126 (N (o265 P) L L) (N o54 L L)))
noncomputable def q153:BT:=N (boot_o_5 P) (N (boot_o_9 P) (N o257 (N o233 (N o34 L L) L) (N (o188 P) L L)) (N o1 (N o185 L L) (N o227 L L))) (N o143 (N o242 (N (o212 P) (N o102 L L) L) (N o111 L L)) (N o1 (N o278 L L) (N (o217 P) L L)))
noncomputable def q154:BT:=N (boot_o_4 P) (N (boot_o_8 P) (N o3 (N o90 (N o150 L L) L) (N o53 L L)) (N (o260 P) (N o113 L L) (N o252 L L))) (N o191 (N o142 (N o53 (N o255 L L) L) (N o93 L L)) (N o109 (N o13 L L) (N o53 L L)))
noncomputable def q155:BT:=N (boot_o_6 P) (N (boot_o_10 P) (N o1 (N o38 (N o1 L L) L) (N o1 L L)) (N o3 (N o1 L L) (N o65 L L))) (N o74 (N o77 (N o1 (N o225 L L) L) (N o1 L L)) (N (o21 P) (N o215 L L) (N o1 L L)))
noncomputable def t115 (P:Params):BT:=(N (boot_o_0 P) (N (boot_o_1 P) (q152 P) (q153 P)) (N (boot_o_2 P) (q154 P) (q155 P)))
def e46_0 (P:Params) (t:List Obj):List Obj:=(boot_o_0 P) :: (boot_o_1 P) :: (boot_o_2 P) :: (boot_o_3 P) :: (boot_o_4 P) :: (boot_o_5 P) :: (boot_o_6 P) :: (boot_o_7 P) :: (boot_o_8 P) :: (boot_o_9 P) :: (boot_o_10 P) :: o1 :: o3 :: o143 :: o74 :: t
noncomputable def e46 (P:Params):Heap:=⟨⟨(e46_0 P [])⟩,⟨[],[],[],0,[],[],false,#[],[],0,false,false,false,0,[2000,10,10],false,0,true,[],[],0,false⟩⟩
noncomputable def q156:BT:=N o35 (N o3 (N (o69 P) (N o70 L L) L) (N o1 (N o1 L L) L)) (N o54 (N o138 (N o251 L L) L) (N o58 (N o7 L L) L))
noncomputable def q157:BT:=N o54 (N (o95 P) (N o54 (N o60 L L) L) (N o115 (N o204 L L) L)) (N o3 (N o53 (N o3 L L) L) (N o41 (N o1 L L) L))
noncomputable def q158:BT:=N o3 (N o54 (N o3 (N o1 L L) L) (N o3 (N o263 L L) L)) (N (o273 P) (N o163 (N o28 L L) L) (N o14 (N o1 L L) L))
noncomputable def q159:BT:=N o54 (N (o196 P) (N o54 (N o62 L L) L) (N o145 (N o1 L L) L)) (N o3 (N o3 (N o1 L L) L) (N o232 (N o3 L L) L))
noncomputable def q160:BT:=N o3 (N o54 (N o3 (N o3 L L) L) (N o3 (N o238 L L) L)) (N (o85 P) (N o29 (N o19 L L) L) (N (o37 P) (N o1 L L) L))
noncomputable def q161:BT:=N (o265 P) (N o3 (N (o68 P) (N o1 L L) L) (N o1 (N o167 L L) L)) (N o54 (N o52 (N o119 L L) L) (N o3 (N o140 L L) L))
noncomputable def q162:BT:=N (o118 P) (N (boot_o_7 P) (N o1 (q156 P) (q157 P)) (N o53 (q158 P) (q61 P))) (N o1 (N o285 (q159 P) (q160 P)) (N o126 (q161 P) (q65 P)))
noncomputable def q163:BT:=N o233 (N o34 (N o268 (N o258 L L) L) (N o176 (N o103 L L) L)) (N (o17 P) (N o224 (N o3 L L) L) (N o3 (N o135 L L) L))
noncomputable def q164:BT:=N (o188 P) (N o154 (N (o72 P) (N o105 L L) L) (N o223 (N o48 L L) L)) (N o57 (N o1 (N o1 L L) L) (N o1 (N o100 L L) L))
noncomputable def q165:BT:=N o185 (N (o170 P) (N o59 (N o26 L L) L) (N o186 (N o3 L L) L)) (N o243 (N o175 (N o98 L L) L) (N o39 (N o177 L L) L))
noncomputable def q166:BT:=N (o212 P) (N o102 (N (o269 P) (N o3 L L) L) (N o31 (N o136 L L) L)) (N o155 (N o1 (N o239 L L) L) (N o1 (N o112 L L) L))
noncomputable def q167:BT:=N o111 (N (o174 P) (N o56 (N o1 L L) L) (N o1 (N o3 L L) L)) (N o230 (N o1 (N o1 L L) L) (N o253 (N o209 L L) L))
noncomputable def q168:BT:=N o278 (N o130 (N o5 (N o184 L L) L) (N o182 (N o1 L L) L)) (N (o16 P) (N o146 (N o148 L L) L) (N o1 (N o3 L L) L))
noncomputable def q169:BT:=N (boot_o_5 P) (N (boot_o_9 P) (N o257 (q163 P) (q164 P)) (N o1 (q165 P) (q70 P))) (N o143 (N o242 (q166 P) (q167 P)) (N o1 (q168 P) (q74 P)))
noncomputable def q170:BT:=N o90 (N o150 (N o193 (N o1 L L) L) (N o3 (N o275 L L) L)) (N o53 (N o220 (N o1 L L) L) (N o1 (N o75 L L) L))
noncomputable def q171:BT:=N o53 (N o205 (N o53 (N o149 L L) L) (N o190 (N o1 L L) L)) (N o144 (N (o166 P) (N o50 L L) L) (N o181 (N o104 L L) L))
noncomputable def q172:BT:=N o113 (N o53 (N o283 (N o25 L L) L) (N o270 (N o1 L L) L)) (N o12 (N o216 (N (o36 P) L L) L) (N o129 (N o3 L L) L))
noncomputable def q173:BT:=N o53 (N o255 (N o53 (N o1 L L) L) (N o116 (N o3 L L) L)) (N o207 (N o231 (N o157 L L) L) (N o219 (N o210 L L) L))
noncomputable def q174:BT:=N o93 (N o53 (N o264 (N o84 L L) L) (N o99 (N o1 L L) L)) (N o42 (N o236 (N o214 L L) L) (N o1 (N o3 L L) L))
noncomputable def q175:BT:=N o13 (N o246 (N o81 (N o3 L L) L) (N o3 (N o120 L L) L)) (N o53 (N o30 (N o64 L L) L) (N o179 (N o1 L L) L))
noncomputable def q176:BT:=N (boot_o_4 P) (N (boot_o_8 P) (N o3 q170 (q171 P)) (N (o260 P) (q172 P) q79)) (N o33 (N o142 q173 q174) (N o109 q175 q83))
noncomputable def q177:BT:=N o38 (N o1 (N o82 (N o153 L L) L) (N o1 (N o78 L L) L)) (N o1 (N o1 (N o261 L L) L) (N o121 (N o1 L L) L))
noncomputable def q178:BT:=N o1 (N o178 (N o1 (N o1 L L) L) (N o1 (N o168 L L) L)) (N o1 (N o3 (N o134 L L) L) (N o53 (N o206 L L) L))
noncomputable def q179:BT:=N o1 (N o1 (N o1 (N o147 L L) L) (N o151 (N o245 L L) L)) (N o281 (N (o173 P) (N o254 L L) L) (N o1 (N o276 L L) L))
noncomputable def q180:BT:=N o1 (N o225 (N o1 (N o76 L L) L) (N o1 (N o247 L L) L)) (N o1 (N o229 (N o51 L L) L) (N o3 (N o180 L L) L))
noncomputable def q181:BT:=N o1 (N o1 (N o1 (N o2 L L) L) (N o0 (N o277 L L) L)) (N o108 (N (o279 P) (N o3 L L) L) (N o114 (N o1 L L) L))
noncomputable def q182:BT:=N o215 (N o1 (N o159 (N o1 L L) L) (N o1 (N o3 L L) L)) (N o1 (N o54 (N o1 L L) L) (N o43 (N o234 L L) L))
noncomputable def q183:BT:=N (boot_o_6 P) (N (boot_o_10 P) (N o1 q177 q178) (N o3 (q179 P) q88)) (N o74 (N o77 q180 (q181 P)) (N (o21 P) q182 q92))
noncomputable def t460 (P:Params):BT:=(N (boot_o_0 P) (N (boot_o_1 P) (q162 P) (q169 P)) (N (boot_o_2 P) (q176 P) (q183 P)))
noncomputable def q184:BT:=N (boot_o_7 P) (N o1 (N o88 (N o3 L L) L) (N o54 (N (o95 P) L L) L)) (N o53 (N o3 (N o54 L L) L) (N (o244 P) (N o3 L L) L))
noncomputable def q185:BT:=N o1 (N o285 (N o54 (N (o196 P) L L) L) (N o3 (N o54 L L) L)) (N o126 (N (o265 P) (N o3 L L) L) (N o54 (N (o282 P) L L) L))
noncomputable def q186:BT:=N (boot_o_9 P) (N o257 (N o233 (N o34 L L) L) (N (o188 P) (N o154 L L) L)) (N o1 (N o185 (N (o170 P) L L) L) (N o227 (N o92 L L) L))
noncomputable def q187:BT:=N o143 (N o242 (N (o212 P) (N o102 L L) L) (N o111 (N (o174 P) L L) L)) (N o1 (N o278 (N o130 L L) L) (N (o217 P) (N o139 L L) L))
noncomputable def q188:BT:=N (boot_o_8 P) (N o3 (N o90 (N o150 L L) L) (N o53 (N o205 L L) L)) (N (o260 P) (N o113 (N o53 L L) L) (N o252 (N o208 L L) L))
noncomputable def q189:BT:=N o222 (N o142 (N o53 (N o255 L L) L) (N o93 (N o53 L L) L)) (N o109 (N o13 (N o246 L L) L) (N o53 (N o228 L L) L))
noncomputable def q190:BT:=N (boot_o_10 P) (N o1 (N o38 (N o1 L L) L) (N o1 (N o178 L L) L)) (N o3 (N o1 (N o1 L L) L) (N o65 (N o1 L L) L))
noncomputable def q191:BT:=N o74 (N o77 (N o1 (N o225 L L) L) (N o1 (N o1 L L) L)) (N (o21 P) (N o215 (N o1 L L) L) (N o1 (N o226 L L) L))
noncomputable def q192:BT:=N (boot_o_0 P) (N (boot_o_1 P) (N (o8 P) (q184 P) (q185 P)) (N (boot_o_5 P) (q186 P) (q187 P))) (N (boot_o_2 P) (N (boot_o_4 P) (q188 P) q189) (N (boot_o_6 P) (q190 P) (q191 P)))
noncomputable def t145 (P:Params):BT:=(q192 P)
noncomputable def q193:BT:=N (boot_o_7 P) (N o1 (N o40 (N o3 L L) (N o54 L L)) (N o54 (N (o95 P) L L) L)) (N o53 (N o3 (N o54 L L) (N (o273 P) L L)) (N (o244 P) (N o3 L L) L))
noncomputable def q194:BT:=N o1 (N o285 (N o54 (N (o196 P) L L) (N o3 L L)) (N o3 (N o54 L L) L)) (N o126 (N (o265 P) (N o3 L L) L) (N o54 (N (o282 P) L L) L))
noncomputable def q195:BT:=N (boot_o_9 P) (N o257 (N o233 (N o34 L L) (N (o17 P) L L)) (N (o188 P) (N o154 L L) L)) (N o1 (N o185 (N (o170 P) L L) (N o243 L L)) (N o227 (N o92 L L) L))
noncomputable def q196:BT:=N o143 (N o242 (N (o212 P) (N o102 L L) (N o155 L L)) (N o111 (N (o174 P) L L) L)) (N o1 (N o278 (N o130 L L) L) (N (o217 P) (N o139 L L) L))
noncomputable def q197:BT:=N (boot_o_8 P) (N o3 (N o90 (N o150 L L) (N o53 L L)) (N o53 (N o205 L L) L)) (N (o260 P) (N o113 (N o53 L L) (N o12 L L)) (N o252 (N o208 L L) L))
noncomputable def q198:BT:=N o128 (N o142 (N o53 (N o255 L L) (N o207 L L)) (N o93 (N o53 L L) L)) (N o109 (N o13 (N o246 L L) L) (N o53 (N o228 L L) L))
noncomputable def q199:BT:=N (boot_o_10 P) (N o1 (N o38 (N o1 L L) (N o1 L L)) (N o1 (N o178 L L) L)) (N o3 (N o1 (N o1 L L) (N o281 L L)) (N o65 (N o1 L L) L))
noncomputable def q200:BT:=N o74 (N o77 (N o1 (N o225 L L) (N o1 L L)) (N o1 (N o1 L L) L)) (N (o21 P) (N o215 (N o1 L L) L) (N o1 (N o226 L L) L))
noncomputable def q201:BT:=N (boot_o_0 P) (N (boot_o_1 P) (N (o284 P) (q193 P) (q194 P)) (N (boot_o_5 P) (q195 P) (q196 P))) (N (boot_o_2 P) (N (boot_o_4 P) (q197 P) q198) (N (boot_o_6 P) (q199 P) (q200 P)))
noncomputable def t160 (P:Params):BT:=(q201 P)
noncomputable def q202:BT:=N (boot_o_7 P) (N o1 (N o280 (N o3 L L) L) (N o54 (N (o95 P) L L) L)) (N o53 (N o3 (N o54 L L) L) (N (o244 P) L L))
noncomputable def q203:BT:=N (o141 P) (q202 P) (N o1 (N o285 (N o54 (N (o196 P) L L) L) (N o3 L L)) (N o126 (N (o265 P) (N o3 L L) L) (N o54 L L)))
noncomputable def q204:BT:=N (boot_o_9 P) (N o257 (N o233 (N o34 L L) L) (N (o188 P) (N o154 L L) L)) (N o1 (N o185 (N (o170 P) L L) L) (N o227 L L))
noncomputable def q205:BT:=N (boot_o_5 P) (q204 P) (N o143 (N o242 (N (o212 P) (N o102 L L) L) (N o111 L L)) (N o1 (N o278 (N o130 L L) L) (N (o217 P) L L)))
noncomputable def q206:BT:=N (boot_o_8 P) (N o3 (N o90 (N o150 L L) L) (N o53 (N o205 L L) L)) (N (o260 P) (N o113 (N o53 L L) L) (N o252 L L))
noncomputable def q207:BT:=N (boot_o_4 P) (q206 P) (N o86 (N o142 (N o53 (N o255 L L) L) (N o93 L L)) (N o109 (N o13 (N o246 L L) L) (N o53 L L)))
noncomputable def q208:BT:=N (boot_o_10 P) (N o1 (N o38 (N o1 L L) L) (N o1 (N o178 L L) L)) (N o3 (N o1 (N o1 L L) L) (N o65 L L))
noncomputable def q209:BT:=N (boot_o_6 P) (q208 P) (N o74 (N o77 (N o1 (N o225 L L) L) (N o1 L L)) (N (o21 P) (N o215 (N o1 L L) L) (N o1 L L)))
noncomputable def t130 (P:Params):BT:=(N (boot_o_0 P) (N (boot_o_1 P) (q203 P) (q205 P)) (N (boot_o_2 P) (q207 P) (q209 P)))
noncomputable def q210:BT:=N (boot_o_1 P) (N (o106 P) (N (boot_o_7 P) (N o1 (N o250 L L) L) (N o53 L L)) (N o1 (N o285 L L) (N o126 L L))) (N (boot_o_5 P) (N (boot_o_9 P) (N o257 (N o233 L L) L) (N o1 L L)) (N o143 (N o242 L L) (N o1 L L)))
noncomputable def q211:BT:=N (boot_o_2 P) (N (boot_o_4 P) (N (boot_o_8 P) (N o3 (N o90 L L) L) (N (o260 P) L L)) (N o11 (N o142 L L) (N o109 L L))) (N (boot_o_6 P) (N (boot_o_10 P) (N o1 (N o38 L L) L) (N o3 L L)) (N o74 (N o77 L L) (N (o21 P) L L)))
noncomputable def t70 (P:Params):BT:=(N (boot_o_0 P) (q210 P) (q211 P))
noncomputable def q212:BT:=N (boot_o_0 P) (N (boot_o_1 P) (N (boot_o_3 P) (N (boot_o_7 P) L L) (N o1 L L)) (N (boot_o_5 P) (N (boot_o_9 P) L L) (N o143 L L))) (N (boot_o_2 P) (N (boot_o_4 P) (N (boot_o_8 P) L L) (N o3 L L)) (N (boot_o_6 P) (N (boot_o_10 P) L L) (N o74 L L)))
noncomputable def t47 (P:Params):BT:=(q212 P)
def vw:Program:=PySem.W.view PySem.Challenge.pw_treeright_k03_what_is_no_tree [0,2,3,4,5,6,7,8,9,10,11,12,13,14,16,17,18,19,20,21,22,23,24,25,26,27,29,30,31,32,33,34,35,36,37,38,39,40,41,42,43,44,45]
noncomputable def s49:List Stmt:=(PySem.Challenge.pw_treeright_k03_what_is_no_tree.main.body.drop 0).take 3
noncomputable def s71:List Stmt:=(PySem.Challenge.pw_treeright_k03_what_is_no_tree.main.body.drop 3).take 1
noncomputable def s86:List Stmt:=(PySem.Challenge.pw_treeright_k03_what_is_no_tree.main.body.drop 4).take 1
noncomputable def s101:List Stmt:=(PySem.Challenge.pw_treeright_k03_what_is_no_tree.main.body.drop 5).take 1
noncomputable def s116:List Stmt:=(PySem.Challenge.pw_treeright_k03_what_is_no_tree.main.body.drop 6).take 1
noncomputable def s131:List Stmt:=(PySem.Challenge.pw_treeright_k03_what_is_no_tree.main.body.drop 7).take 1
noncomputable def s146:List Stmt:=(PySem.Challenge.pw_treeright_k03_what_is_no_tree.main.body.drop 8).take 1
noncomputable def s161:List Stmt:=(PySem.Challenge.pw_treeright_k03_what_is_no_tree.main.body.drop 9).take 1
noncomputable def s176:List Stmt:=(PySem.Challenge.pw_treeright_k03_what_is_no_tree.main.body.drop 10).take 1
noncomputable def s191:List Stmt:=(PySem.Challenge.pw_treeright_k03_what_is_no_tree.main.body.drop 11).take 1
noncomputable def s206:List Stmt:=(PySem.Challenge.pw_treeright_k03_what_is_no_tree.main.body.drop 12).take 1
noncomputable def s221:List Stmt:=(PySem.Challenge.pw_treeright_k03_what_is_no_tree.main.body.drop 13).take 1
noncomputable def s243:List Stmt:=(PySem.Challenge.pw_treeright_k03_what_is_no_tree.main.body.drop 14).take 9
noncomputable def s289:List Stmt:=(PySem.Challenge.pw_treeright_k03_what_is_no_tree.main.body.drop 23).take 4
noncomputable def s315:List Stmt:=(PySem.Challenge.pw_treeright_k03_what_is_no_tree.main.body.drop 27).take 1
noncomputable def s378:List Stmt:=(PySem.Challenge.pw_treeright_k03_what_is_no_tree.main.body.drop 28).take 14
noncomputable def s461:List Stmt:=(PySem.Challenge.pw_treeright_k03_what_is_no_tree.main.body.drop 42).take 4
end HD
end
noncomputable def PySem.W.Fast.tw14598715356260435866:Unit:=()
noncomputable def PySem.W.Fast.tw12831946366807014121:Unit:=()
noncomputable def PySem.W.Fast.tw2505294214074580061:Unit:=()
noncomputable def PySem.W.Fast.tw1184825839854068080:Unit:=()
noncomputable def PySem.W.Fast.tw16963627058361203756:Unit:=()
noncomputable def PySem.W.Fast.tw4063309880790847132:Unit:=()
noncomputable def PySem.W.Fast.tw16335552587211677449:Unit:=()
noncomputable def PySem.W.Fast.tw1921148480499289173:Unit:=()
noncomputable def PySem.W.Fast.tw8219606844568596651:Unit:=()
noncomputable def PySem.W.Fast.tw1564543192828473526:Unit:=()
noncomputable def PySem.W.Fast.tw9434032782923581289:Unit:=()
noncomputable def PySem.W.Fast.tw3094701115853657799:Unit:=()
lay_quick PySem.Challenge.pw_treeright_k03_what_is_no_tree
lay_quick HD.t190
lay_quick HD.e487
lay_quick HD.t377
lay_quick HD.t85
lay_quick HD.t220
lay_quick HD.t242
lay_quick HD.t486
lay_quick HD.t175
lay_quick HD.t288
lay_quick HD.t205
lay_quick HD.t314
lay_quick HD.t100
lay_quick HD.t115
lay_quick HD.e46
lay_quick HD.t460
lay_quick HD.t145
lay_quick HD.t160
lay_quick HD.t130
lay_quick HD.t70
lay_quick HD.t47
noncomputable def PySem.W.Fast.tw11224283036561675971:PySem.Params->PySem.W.BT:=PySem.W.Fast.tw2067825850252802259
theorem PySem.W.Fast.te11224283036561675971:HD.t190=PySem.W.Fast.tw11224283036561675971:=PySem.W.Fast.te2067825850252802259
noncomputable def PySem.W.Fast.tw2330265474345804389:PySem.Params->PySem.Heap:=PySem.W.Fast.tw14043882945863209180
theorem PySem.W.Fast.te2330265474345804389:HD.e487=PySem.W.Fast.tw2330265474345804389:=PySem.W.Fast.te14043882945863209180
noncomputable def PySem.W.Fast.tw6553995611121072902:PySem.Params->PySem.W.BT:=PySem.W.Fast.tw638310350545466884
theorem PySem.W.Fast.te6553995611121072902:HD.t377=PySem.W.Fast.tw6553995611121072902:=PySem.W.Fast.te638310350545466884
noncomputable def PySem.W.Fast.tw2294854397974045510:PySem.Params->PySem.W.BT:=PySem.W.Fast.tw2036878166784380086
theorem PySem.W.Fast.te2294854397974045510:HD.t85=PySem.W.Fast.tw2294854397974045510:=PySem.W.Fast.te2036878166784380086
noncomputable def PySem.W.Fast.tw6364832225403335943:PySem.Params->PySem.W.BT:=PySem.W.Fast.tw17152881445362334774
theorem PySem.W.Fast.te6364832225403335943:HD.t220=PySem.W.Fast.tw6364832225403335943:=PySem.W.Fast.te17152881445362334774
noncomputable def PySem.W.Fast.tw16029188298635462215:PySem.Params->PySem.W.BT:=PySem.W.Fast.tw9221785693231611341
theorem PySem.W.Fast.te16029188298635462215:HD.t242=PySem.W.Fast.tw16029188298635462215:=PySem.W.Fast.te9221785693231611341
noncomputable def PySem.W.Fast.tw9972897907756013287:PySem.Params->PySem.W.BT:=PySem.W.Fast.tw13000393609000991447
theorem PySem.W.Fast.te9972897907756013287:HD.t486=PySem.W.Fast.tw9972897907756013287:=PySem.W.Fast.te13000393609000991447
noncomputable def PySem.W.Fast.tw4631843929112630505:PySem.Params->PySem.W.BT:=PySem.W.Fast.tw920612414741421765
theorem PySem.W.Fast.te4631843929112630505:HD.t175=PySem.W.Fast.tw4631843929112630505:=PySem.W.Fast.te920612414741421765
noncomputable def PySem.W.Fast.tw16798657068305975370:PySem.Params->PySem.W.BT:=PySem.W.Fast.tw14302309412702635825
theorem PySem.W.Fast.te16798657068305975370:HD.t288=PySem.W.Fast.tw16798657068305975370:=PySem.W.Fast.te14302309412702635825
noncomputable def PySem.W.Fast.tw11268533821286410027:PySem.Params->PySem.W.BT:=PySem.W.Fast.tw14164315333175427251
theorem PySem.W.Fast.te11268533821286410027:HD.t205=PySem.W.Fast.tw11268533821286410027:=PySem.W.Fast.te14164315333175427251
noncomputable def PySem.W.Fast.tw15536353622773388428:PySem.Params->PySem.W.BT:=PySem.W.Fast.tw4566607602155527527
theorem PySem.W.Fast.te15536353622773388428:HD.t314=PySem.W.Fast.tw15536353622773388428:=PySem.W.Fast.te4566607602155527527
noncomputable def PySem.W.Fast.tw17546005709695080877:PySem.Params->PySem.W.BT:=PySem.W.Fast.tw11108817263175320385
theorem PySem.W.Fast.te17546005709695080877:HD.t100=PySem.W.Fast.tw17546005709695080877:=PySem.W.Fast.te11108817263175320385
noncomputable def PySem.W.Fast.tw15632388027458123374:PySem.Params->PySem.W.BT:=PySem.W.Fast.tw13006058816851964647
theorem PySem.W.Fast.te15632388027458123374:HD.t115=PySem.W.Fast.tw15632388027458123374:=PySem.W.Fast.te13006058816851964647
noncomputable def PySem.W.Fast.tw2257529940240947247:PySem.Params->PySem.Heap:=PySem.W.Fast.tw12643942650068612825
theorem PySem.W.Fast.te2257529940240947247:HD.e46=PySem.W.Fast.tw2257529940240947247:=PySem.W.Fast.te12643942650068612825
noncomputable def PySem.W.Fast.tw16333567060226556081:PySem.Params->PySem.W.BT:=PySem.W.Fast.tw6378411040524356199
theorem PySem.W.Fast.te16333567060226556081:HD.t460=PySem.W.Fast.tw16333567060226556081:=PySem.W.Fast.te6378411040524356199
noncomputable def PySem.W.Fast.tw17888565902029391346:PySem.Params->PySem.W.BT:=PySem.W.Fast.tw14662557133790047758
theorem PySem.W.Fast.te17888565902029391346:HD.t145=PySem.W.Fast.tw17888565902029391346:=PySem.W.Fast.te14662557133790047758
noncomputable def PySem.W.Fast.tw2810533944269268182:PySem.Params->PySem.W.BT:=PySem.W.Fast.tw452476676235954211
theorem PySem.W.Fast.te2810533944269268182:HD.t160=PySem.W.Fast.tw2810533944269268182:=PySem.W.Fast.te452476676235954211
noncomputable def PySem.W.Fast.tw1292346606274980823:PySem.Params->PySem.W.BT:=PySem.W.Fast.tw7778535457881203485
theorem PySem.W.Fast.te1292346606274980823:HD.t130=PySem.W.Fast.tw1292346606274980823:=PySem.W.Fast.te7778535457881203485
noncomputable def PySem.W.Fast.tw877418901244307835:PySem.Params->PySem.W.BT:=PySem.W.Fast.tw4601978763475442059
theorem PySem.W.Fast.te877418901244307835:HD.t70=PySem.W.Fast.tw877418901244307835:=PySem.W.Fast.te4601978763475442059
noncomputable def PySem.W.Fast.tw804092199982636349:PySem.Params->PySem.W.BT:=PySem.W.Fast.tw12288697002581643564
theorem PySem.W.Fast.te804092199982636349:HD.t47=PySem.W.Fast.tw804092199982636349:=PySem.W.Fast.te12288697002581643564
noncomputable def PySem.W.Fast.tw1647960591809683682:PySem.Program:=PySem.W.view PySem.W.Fast.tw12497382952810748593 [0,2,3,4,5,6,7,8,9,10,11,12,13,14,16,17,18,19,20,21,22,23,24,25,26,27,29,30,31,32,33,34,35,36,37,38,39,40,41,42,43,44,45]
theorem PySem.W.Fast.te1647960591809683682:HD.vw=PySem.W.Fast.tw1647960591809683682:=congrArg (fun p:PySem.Program=>PySem.W.view p [0,2,3,4,5,6,7,8,9,10,11,12,13,14,16,17,18,19,20,21,22,23,24,25,26,27,29,30,31,32,33,34,35,36,37,38,39,40,41,42,43,44,45]) PySem.W.Fast.te12497382952810748593
noncomputable def PySem.W.Fast.tw16970792351503237766:List PySem.Stmt:=(PySem.W.Fast.tw12497382952810748593.main.body.drop 0).take 3
theorem PySem.W.Fast.te16970792351503237766:HD.s49=PySem.W.Fast.tw16970792351503237766:=congrArg (fun p:PySem.Program=>(p.main.body.drop 0).take 3) PySem.W.Fast.te12497382952810748593
noncomputable def PySem.W.Fast.tw7766378276201275438:List PySem.Stmt:=(PySem.W.Fast.tw12497382952810748593.main.body.drop 3).take 1
theorem PySem.W.Fast.te7766378276201275438:HD.s71=PySem.W.Fast.tw7766378276201275438:=congrArg (fun p:PySem.Program=>(p.main.body.drop 3).take 1) PySem.W.Fast.te12497382952810748593
noncomputable def PySem.W.Fast.tw9305391788130653963:List PySem.Stmt:=(PySem.W.Fast.tw12497382952810748593.main.body.drop 4).take 1
theorem PySem.W.Fast.te9305391788130653963:HD.s86=PySem.W.Fast.tw9305391788130653963:=congrArg (fun p:PySem.Program=>(p.main.body.drop 4).take 1) PySem.W.Fast.te12497382952810748593
noncomputable def PySem.W.Fast.tw12673549619886724666:List PySem.Stmt:=(PySem.W.Fast.tw12497382952810748593.main.body.drop 5).take 1
theorem PySem.W.Fast.te12673549619886724666:HD.s101=PySem.W.Fast.tw12673549619886724666:=congrArg (fun p:PySem.Program=>(p.main.body.drop 5).take 1) PySem.W.Fast.te12497382952810748593
noncomputable def PySem.W.Fast.tw14763428746477059428:List PySem.Stmt:=(PySem.W.Fast.tw12497382952810748593.main.body.drop 6).take 1
theorem PySem.W.Fast.te14763428746477059428:HD.s116=PySem.W.Fast.tw14763428746477059428:=congrArg (fun p:PySem.Program=>(p.main.body.drop 6).take 1) PySem.W.Fast.te12497382952810748593
noncomputable def PySem.W.Fast.tw8079883169468671255:List PySem.Stmt:=(PySem.W.Fast.tw12497382952810748593.main.body.drop 7).take 1
theorem PySem.W.Fast.te8079883169468671255:HD.s131=PySem.W.Fast.tw8079883169468671255:=congrArg (fun p:PySem.Program=>(p.main.body.drop 7).take 1) PySem.W.Fast.te12497382952810748593
noncomputable def PySem.W.Fast.tw15416708228241726627:List PySem.Stmt:=(PySem.W.Fast.tw12497382952810748593.main.body.drop 8).take 1
theorem PySem.W.Fast.te15416708228241726627:HD.s146=PySem.W.Fast.tw15416708228241726627:=congrArg (fun p:PySem.Program=>(p.main.body.drop 8).take 1) PySem.W.Fast.te12497382952810748593
noncomputable def PySem.W.Fast.tw14889595167817102546:List PySem.Stmt:=(PySem.W.Fast.tw12497382952810748593.main.body.drop 9).take 1
theorem PySem.W.Fast.te14889595167817102546:HD.s161=PySem.W.Fast.tw14889595167817102546:=congrArg (fun p:PySem.Program=>(p.main.body.drop 9).take 1) PySem.W.Fast.te12497382952810748593
noncomputable def PySem.W.Fast.tw9741163907969138060:List PySem.Stmt:=(PySem.W.Fast.tw12497382952810748593.main.body.drop 10).take 1
theorem PySem.W.Fast.te9741163907969138060:HD.s176=PySem.W.Fast.tw9741163907969138060:=congrArg (fun p:PySem.Program=>(p.main.body.drop 10).take 1) PySem.W.Fast.te12497382952810748593
noncomputable def PySem.W.Fast.tw3985506009949057970:List PySem.Stmt:=(PySem.W.Fast.tw12497382952810748593.main.body.drop 11).take 1
theorem PySem.W.Fast.te3985506009949057970:HD.s191=PySem.W.Fast.tw3985506009949057970:=congrArg (fun p:PySem.Program=>(p.main.body.drop 11).take 1) PySem.W.Fast.te12497382952810748593
noncomputable def PySem.W.Fast.tw17233677561841584812:List PySem.Stmt:=(PySem.W.Fast.tw12497382952810748593.main.body.drop 12).take 1
theorem PySem.W.Fast.te17233677561841584812:HD.s206=PySem.W.Fast.tw17233677561841584812:=congrArg (fun p:PySem.Program=>(p.main.body.drop 12).take 1) PySem.W.Fast.te12497382952810748593
noncomputable def PySem.W.Fast.tw959750476839503417:List PySem.Stmt:=(PySem.W.Fast.tw12497382952810748593.main.body.drop 13).take 1
theorem PySem.W.Fast.te959750476839503417:HD.s221=PySem.W.Fast.tw959750476839503417:=congrArg (fun p:PySem.Program=>(p.main.body.drop 13).take 1) PySem.W.Fast.te12497382952810748593
noncomputable def PySem.W.Fast.tw6692257562035669867:List PySem.Stmt:=(PySem.W.Fast.tw12497382952810748593.main.body.drop 14).take 9
theorem PySem.W.Fast.te6692257562035669867:HD.s243=PySem.W.Fast.tw6692257562035669867:=congrArg (fun p:PySem.Program=>(p.main.body.drop 14).take 9) PySem.W.Fast.te12497382952810748593
noncomputable def PySem.W.Fast.tw12336147652794031108:List PySem.Stmt:=(PySem.W.Fast.tw12497382952810748593.main.body.drop 23).take 4
theorem PySem.W.Fast.te12336147652794031108:HD.s289=PySem.W.Fast.tw12336147652794031108:=congrArg (fun p:PySem.Program=>(p.main.body.drop 23).take 4) PySem.W.Fast.te12497382952810748593
noncomputable def PySem.W.Fast.tw413777450799348740:List PySem.Stmt:=(PySem.W.Fast.tw12497382952810748593.main.body.drop 27).take 1
theorem PySem.W.Fast.te413777450799348740:HD.s315=PySem.W.Fast.tw413777450799348740:=congrArg (fun p:PySem.Program=>(p.main.body.drop 27).take 1) PySem.W.Fast.te12497382952810748593
noncomputable def PySem.W.Fast.tw1633059447890184522:List PySem.Stmt:=(PySem.W.Fast.tw12497382952810748593.main.body.drop 28).take 14
theorem PySem.W.Fast.te1633059447890184522:HD.s378=PySem.W.Fast.tw1633059447890184522:=congrArg (fun p:PySem.Program=>(p.main.body.drop 28).take 14) PySem.W.Fast.te12497382952810748593
noncomputable def PySem.W.Fast.tw5265316160671132943:List PySem.Stmt:=(PySem.W.Fast.tw12497382952810748593.main.body.drop 42).take 4
theorem PySem.W.Fast.te5265316160671132943:HD.s461=PySem.W.Fast.tw5265316160671132943:=congrArg (fun p:PySem.Program=>(p.main.body.drop 42).take 4) PySem.W.Fast.te12497382952810748593
open_top head for PySem.Challenge.rw_treeright_k03_what_is_no_tree
end
namespace K03
open PySem L2
def FnK (K:PySem.W.Frag) (n q:Str) (st:Stmt) (f:Addr):Prop:=∃ (od an:Option Addr) (sl:Array (Option Value)) (oc kV dc pm cd ct:Value),K.lookup f=some ⟨oc,od,.func (PySem.W.fnOf n q (defArgs st) (defBody st) (defScope st) .none kV dc pm an cd ct),sl⟩/\PySem.W.codeIn K cd q=true/\PySem.W.keepIn K (.ref f)=true
def FgK (K:PySem.W.Frag) (n:Str) (st:Stmt):Prop:=∃ f,PySem.W.nsIn K mainGlobals n=some (some (.ref f))/\FnK K n n st f
def MtK (K:PySem.W.Frag) (C:Addr) (n q:Str) (st:Stmt):Prop:=∃ f,PySem.W.findIn K (.ref C) n=some (some (.ref f))/\PySem.W.isFn K (.ref f)=true/\FnK K n q st f
theorem funG_of {K:PySem.W.Frag} {h:Heap} {mg:Str->Option Value} {n:Str} {st:Stmt} {ps:List Str} (X:K.In h) (G:h.Ns mainGlobals mg) (l:FgK K n st)
  (hb:∀ (kV doc pm:Value) (an:Option Addr) (cdv ct:Value) (us:List Value),us.length=ps.length->bindArgs (PySem.W.fnOf n n (defArgs st) (defBody st) (defScope st) .none kV doc pm an cdv ct) ⟨us,[]⟩=pure (ps.zip us)):FunG K mg n st ps:=by
 obtain ⟨f,a,od,an,sl,oc,kV,dc,pm,cd,ct,l,c,k⟩:=l
 exact funG_mk X G a l c k hb
theorem mthG_of {K:PySem.W.Frag} {C:Addr} {n q:Str} {st:Stmt} {ps:List Str} (l:MtK K C n q st)
  (hb:∀ (kV doc pm:Value) (an:Option Addr) (cdv ct:Value) (us:List Value),us.length=ps.length->bindArgs (PySem.W.fnOf n q (defArgs st) (defBody st) (defScope st) .none kV doc pm an cdv ct) ⟨us,[]⟩=pure (ps.zip us)):MthG K C n q st ps:=by
 obtain ⟨f,a,i,od,an,sl,oc,kV,dc,pm,cd,ct,l,c,k⟩:=l
 exact mthG_mk a i l c k hb
structure ClK (K:PySem.W.Frag) (n:Str) (C:Addr):Prop where
 a:PySem.W.nsIn K mainGlobals n=some (some (.ref C))
 pg:PySem.W.plainGet K C Str.empty=true
 hd:PySem.W.hasDictIn K C=true
 po:PySem.W.plainOver K C=true
 sa:PySem.W.findIn K (.ref C) "__setattr__"=some (some (.builtin "object.__setattr__"))
 ms:PySem.W.makesIn K C=true
 kc:PySem.W.keepIn K (.ref C)=true
theorem all_mk {l:PySem.W.OpenLaw} {w:World} {K:PySem.W.Frag} {h:Heap} {mg:Str->Option Value} {fa:Addr} (X:K.In h) (G:h.Ns mainGlobals mg) (hfa:mg "law"=some (.ref fa))
  {fL:Addr} {C:Addr} {t_LETTERS:Tok} {t_LONGEST_NAME:Tok} {x0:Addr} {x1:Addr} {x2:Addr} {x3:Addr} {x4:Addr} {x5:Addr} {x6:Addr} {x7:Addr} {x8:Addr} {x9:Addr} {x10:Addr} {x11:Addr} {x12:Addr}
  (l0:FgK K "is_name" sName)
  (l1:FgK K "is_one_of" sOneOf)
  (l2:FgK K "are_names" sAreN)
  (l3:FgK K "are_unlike" sUnl)
  (l4:FgK K "are_houses" sAreH)
  (l5:FgK K "is_tie" sTie)
  (l6:FgK K "are_ties" sAreT)
  (l7:FgK K "tied_to_each" sTied)
  (l8:FgK K "steps_toward" sSteps)
  (l9:FgK K "_law_mixed" sMixed)
  (l10:FgK K "_law_digits" sDigits)
  (l11:FgK K "_law_next" sNext)
  (l12:FgK K "_law_word" sWord)
  (l13:FgK K "_law_names" sNames)
  (l14:FgK K "_law_turned" sTurned)
  (l15:FgK K "_law_shuffled" sShuf)
  (l16:FgK K "_law_tree" sTree)
  (l17:FgK K "_law_is_name" sLN)
  (l18:FgK K "_law_is_tree" sIT)
  (l19:FgK K "_law_odd_name" sON)
  (l20:FgK K "_law_odd_tie" sOT)
  (l21:FgK K "_law_houses_otherwise" sHO)
  (l22:FgK K "_law_ties_otherwise" sTO)
  (l23:FgK K "_law_made" sMk)
  (l24:FgK K "_law_right" sRi)
  (aL:PySem.W.nsIn K mainGlobals "law"=some (some (.ref fL))) (lL:FnK K "law" "law" sLaw fL)
  (k_C:ClK K "Tree" C)
  (mC0:MtK K C "__init__" "Tree.__init__" sInit)
  (mC1:MtK K C "houses" "Tree.houses" sHouses)
  (mC2:MtK K C "ties" "Tree.ties" sTies)
  (n_C_names:PySem.W.findIn K (.ref C) "names"=some none)
  (n_C_pairs:PySem.W.findIn K (.ref C) "pairs"=some none)
  (n_C_near:PySem.W.findIn K (.ref C) "near"=some none)
  (z_isinstance:PySem.W.nsIn K mainGlobals "isinstance"=some none)
  (z_str:PySem.W.nsIn K mainGlobals "str"=some none)
  (z_len:PySem.W.nsIn K mainGlobals "len"=some none)
  (z_all:PySem.W.nsIn K mainGlobals "all"=some none)
  (z_list:PySem.W.nsIn K mainGlobals "list"=some none)
  (z_tuple:PySem.W.nsIn K mainGlobals "tuple"=some none)
  (z_set:PySem.W.nsIn K mainGlobals "set"=some none)
  (z_sorted:PySem.W.nsIn K mainGlobals "sorted"=some none)
  (z_min:PySem.W.nsIn K mainGlobals "min"=some none)
  (z_max:PySem.W.nsIn K mainGlobals "max"=some none)
  (z_range:PySem.W.nsIn K mainGlobals "range"=some none)
  (z_int:PySem.W.nsIn K mainGlobals "int"=some none)
  (z_dict:PySem.W.nsIn K mainGlobals "dict"=some none)
  (z_ValueError:PySem.W.nsIn K mainGlobals "ValueError"=some none)
  (g_LETTERS:PySem.W.nsIn K mainGlobals "LETTERS"=some (some (.str "abcdefghijklmnopqrstuvwxyz" t_LETTERS)))
  (g_LONGEST_NAME:PySem.W.nsIn K mainGlobals "LONGEST_NAME"=some (some (.int 8 t_LONGEST_NAME)))
  (aX_0:PySem.W.nsIn K mainGlobals "NoTree"=some (some (.ref x0)))
  (aX_1:PySem.W.nsIn K mainGlobals "NoHouse"=some (some (.ref x1)))
  (aX_2:PySem.W.nsIn K mainGlobals "NoSeat"=some (some (.ref x2)))
  (aX_3:PySem.W.nsIn K mainGlobals "NoAsker"=some (some (.ref x3)))
  (aX_4:PySem.W.nsIn K mainGlobals "NoLetter"=some (some (.ref x4)))
  (aX_5:PySem.W.nsIn K mainGlobals "NoRight"=some (some (.ref x5)))
  (aX_6:PySem.W.nsIn K mainGlobals "NoRow"=some (some (.ref x6)))
  (aX_7:PySem.W.nsIn K mainGlobals "NoTie"=some (some (.ref x7)))
  (aX_8:PySem.W.nsIn K mainGlobals "Down"=some (some (.ref x8)))
  (aX_9:PySem.W.nsIn K mainGlobals "NoMend"=some (some (.ref x9)))
  (aX_10:PySem.W.nsIn K mainGlobals "NoText"=some (some (.ref x10)))
  (aX_11:PySem.W.nsIn K mainGlobals "NoLine"=some (some (.ref x11)))
  (aX_12:PySem.W.nsIn K mainGlobals "TreeError"=some (some (.ref x12)))
  (xtab:excTab K [x0,x1,x2,x3,x4,x5,x6,x7,x8,x9,x10,x11] x12=true)
  (xall:excAll K [x0,x1,x2,x3,x4,x5,x6,x7,x8,x9,x10,x11]=true) :
  ∃ fd:FuncData,(∀ (s:Shared) (v:Value),BindsTo s fd ⟨[v],[]⟩ [("_law_script",v)])/\∀ base:Heap,K.In base->base.Ns mainGlobals mg->(∃ o,base.get? sysModules=some o)->LawOk l.prog w K mg base 9 fa fd ["_law_script"] (spLaw K):=by
 have e:=hfa.symm.trans (PySem.W.mg_of X G aL)
 cases e
 obtain ⟨od,an,sl,oc,kV,dc,pm,cd,ct,lL,cL,kL⟩:=lL
 have GI:FunG K mg "is_name" sName ["thing"]:=funG_of X G l0 (fun _ _ _ _ _ _ us hl=>match us,hl with | [_],_=>rfl)
 have GOO:FunG K mg "is_one_of" sOneOf ["thing","houses"]:=funG_of X G l1 (fun _ _ _ _ _ _ us hl=>match us,hl with | [_,_],_=>rfl)
 have GAN:FunG K mg "are_names" sAreN ["thing"]:=funG_of X G l2 (fun _ _ _ _ _ _ us hl=>match us,hl with | [_],_=>rfl)
 have GAU:FunG K mg "are_unlike" sUnl ["names"]:=funG_of X G l3 (fun _ _ _ _ _ _ us hl=>match us,hl with | [_],_=>rfl)
 have GAH:FunG K mg "are_houses" sAreH ["thing"]:=funG_of X G l4 (fun _ _ _ _ _ _ us hl=>match us,hl with | [_],_=>rfl)
 have GIT:FunG K mg "is_tie" sTie ["thing","houses"]:=funG_of X G l5 (fun _ _ _ _ _ _ us hl=>match us,hl with | [_,_],_=>rfl)
 have GAT:FunG K mg "are_ties" sAreT ["thing","houses"]:=funG_of X G l6 (fun _ _ _ _ _ _ us hl=>match us,hl with | [_,_],_=>rfl)
 have GTE:FunG K mg "tied_to_each" sTied ["houses","ties"]:=funG_of X G l7 (fun _ _ _ _ _ _ us hl=>match us,hl with | [_,_],_=>rfl)
 have GST:FunG K mg "steps_toward" sSteps ["near","goal"]:=funG_of X G l8 (fun _ _ _ _ _ _ us hl=>match us,hl with | [_,_],_=>rfl)
 have GM:FunG K mg "_law_mixed" sMixed ["_law_cell","_law_k"]:=funG_of X G l9 (fun _ _ _ _ _ _ us hl=>match us,hl with | [_,_],_=>rfl)
 have GD:FunG K mg "_law_digits" sDigits ["_law_cell"]:=funG_of X G l10 (fun _ _ _ _ _ _ us hl=>match us,hl with | [_],_=>rfl)
 have GN:FunG K mg "_law_next" sNext ["_law_source","_law_many"]:=funG_of X G l11 (fun _ _ _ _ _ _ us hl=>match us,hl with | [_,_],_=>rfl)
 have GW:FunG K mg "_law_word" sWord ["_law_source","_law_most"]:=funG_of X G l12 (fun _ _ _ _ _ _ us hl=>match us,hl with | [_,_],_=>rfl)
 have GNa:FunG K mg "_law_names" sNames ["_law_source","_law_many"]:=funG_of X G l13 (fun _ _ _ _ _ _ us hl=>match us,hl with | [_,_],_=>rfl)
 have GTu:FunG K mg "_law_turned" sTurned ["_law_source","_law_things"]:=funG_of X G l14 (fun _ _ _ _ _ _ us hl=>match us,hl with | [_,_],_=>rfl)
 have GSh:FunG K mg "_law_shuffled" sShuf ["_law_source","_law_names_here"]:=funG_of X G l15 (fun _ _ _ _ _ _ us hl=>match us,hl with | [_,_],_=>rfl)
 have GTr:FunG K mg "_law_tree" sTree ["_law_source","_law_most"]:=funG_of X G l16 (fun _ _ _ _ _ _ us hl=>match us,hl with | [_,_],_=>rfl)
 have GLN:FunG K mg "_law_is_name" sLN ["_law_thing"]:=funG_of X G l17 (fun _ _ _ _ _ _ us hl=>match us,hl with | [_],_=>rfl)
 have GLT:FunG K mg "_law_is_tree" sIT ["_law_houses","_law_ties"]:=funG_of X G l18 (fun _ _ _ _ _ _ us hl=>match us,hl with | [_,_],_=>rfl)
 have GON:FunG K mg "_law_odd_name" sON ["_law_source","_law_names_here"]:=funG_of X G l19 (fun _ _ _ _ _ _ us hl=>match us,hl with | [_,_],_=>rfl)
 have GOT:FunG K mg "_law_odd_tie" sOT ["_law_source","_law_names_here"]:=funG_of X G l20 (fun _ _ _ _ _ _ us hl=>match us,hl with | [_,_],_=>rfl)
 have GHO:FunG K mg "_law_houses_otherwise" sHO ["_law_source","_law_houses"]:=funG_of X G l21 (fun _ _ _ _ _ _ us hl=>match us,hl with | [_,_],_=>rfl)
 have GTO:FunG K mg "_law_ties_otherwise" sTO ["_law_source","_law_names_here","_law_ties"]:=funG_of X G l22 (fun _ _ _ _ _ _ us hl=>match us,hl with | [_,_,_],_=>rfl)
 have GMk:FunG K mg "_law_made" sMk ["_law_houses","_law_ties"]:=funG_of X G l23 (fun _ _ _ _ _ _ us hl=>match us,hl with | [_,_],_=>rfl)
 have GRi:FunG K mg "_law_right" sRi ["_law_houses","_law_ties"]:=funG_of X G l24 (fun _ _ _ _ _ _ us hl=>match us,hl with | [_,_],_=>rfl)
 have FL:=fun_mk (st:=sLaw) lL cL kL
 have cl_C:Cls K C:=⟨k_C.pg,k_C.hd,k_C.po,k_C.sa⟩
 obtain ⟨fiC,aiC,iiC,_,_,_,_,_,_,_,_,_,liC,ciC,kiC⟩:=mC0
 have mIF:=fun_mk (st:=sInit) liC ciC kiC
 have mIB:=mIF.binds (ps:=["self","houses","ties"]) (fun _ _ _ _ _ _ us hl=>match us,hl with | [_,_,_],_=>rfl)
 have mIM:Mk K C fiC:=⟨k_C.ms,aiC,iiC,k_C.kc⟩
 have mH:MthG K C "houses" "Tree.houses" sHouses ["self"]:=mthG_of mC1 (fun _ _ _ _ _ _ us hl=>match us,hl with | [_],_=>rfl)
 have mT:MthG K C "ties" "Tree.ties" sTies ["self"]:=mthG_of mC2 (fun _ _ _ _ _ _ us hl=>match us,hl with | [_],_=>rfl)
 have mg_C:=PySem.W.mg_of X G k_C.a
 have b_isinstance:Blt mg "isinstance":=⟨PySem.W.mg_none_of X G z_isinstance⟩
 have b_str:Blt mg "str":=⟨PySem.W.mg_none_of X G z_str⟩
 have b_len:Blt mg "len":=⟨PySem.W.mg_none_of X G z_len⟩
 have b_all:Blt mg "all":=⟨PySem.W.mg_none_of X G z_all⟩
 have b_list:Blt mg "list":=⟨PySem.W.mg_none_of X G z_list⟩
 have b_tuple:Blt mg "tuple":=⟨PySem.W.mg_none_of X G z_tuple⟩
 have b_set:Blt mg "set":=⟨PySem.W.mg_none_of X G z_set⟩
 have b_sorted:Blt mg "sorted":=⟨PySem.W.mg_none_of X G z_sorted⟩
 have b_min:Blt mg "min":=⟨PySem.W.mg_none_of X G z_min⟩
 have b_max:Blt mg "max":=⟨PySem.W.mg_none_of X G z_max⟩
 have b_range:Blt mg "range":=⟨PySem.W.mg_none_of X G z_range⟩
 have b_int:Blt mg "int":=⟨PySem.W.mg_none_of X G z_int⟩
 have b_dict:Blt mg "dict":=⟨PySem.W.mg_none_of X G z_dict⟩
 have b_ValueError:Blt mg "ValueError":=⟨PySem.W.mg_none_of X G z_ValueError⟩
 have gl_LETTERS:Glo mg "LETTERS" (.str abc):=⟨_,PySem.W.mg_of X G g_LETTERS,⟨_,rfl⟩⟩
 have gl_LONGEST_NAME:Glo mg "LONGEST_NAME" (.int 8):=⟨_,PySem.W.mg_of X G g_LONGEST_NAME,⟨_,rfl⟩⟩
 refine ⟨PySem.W.fnOf "law" "law" (defArgs sLaw) (defBody sLaw) (defScope sLaw) .none kV dc pm an cd ct,fun s v=>.of_eq rfl,fun base _ _ hsm=>?_⟩
 have T:TreeT K C:=⟨cl_C,n_C_names,n_C_pairs,n_C_near⟩
 obtain ⟨cs,hcs⟩:∃ cs:Nat->Addr,cs=fun i=>[x0,x1,x2,x3,x4,x5,x6,x7,x8,x9,x10,x11].getD i 0:=⟨_,rfl⟩
 have kn:Kn K mg cs:=by
  subst hcs
  exact ⟨⟨_,PySem.W.mg_of X G aX_0,rfl⟩,⟨_,PySem.W.mg_of X G aX_1,rfl⟩,⟨_,PySem.W.mg_of X G aX_2,rfl⟩,⟨_,PySem.W.mg_of X G aX_3,rfl⟩,⟨_,PySem.W.mg_of X G aX_4,rfl⟩,⟨_,PySem.W.mg_of X G aX_5,rfl⟩,⟨_,PySem.W.mg_of X G aX_6,rfl⟩,⟨_,PySem.W.mg_of X G aX_7,rfl⟩,⟨_,PySem.W.mg_of X G aX_8,rfl⟩,⟨_,PySem.W.mg_of X G aX_9,rfl⟩,⟨_,PySem.W.mg_of X G aX_10,rfl⟩,⟨_,PySem.W.mg_of X G aX_11,rfl⟩,fun i j hi hj=>tab_kd xtab hi hj,fun i hi=>tab_kv xtab hi,fun i hi=>all_ek xall hi⟩
 have exT:ExcC K mg "NoTree" (cs 0):=by
  subst hcs
  exact ⟨PySem.W.mg_of X G aX_0,tab_ok xtab (i:=0) (by decide) (by decide)⟩
 have hex:PySem.W.exmOne K (.ref (cs 0)) (.ref x12)=some true:=by
  subst hcs
  exact tab_ex xtab (i:=0) (by decide)
 have mgT:=PySem.W.mg_of X G aX_12
 have CI:=okName (P:=l.prog) (w:=w) (base:=base) GI b_isinstance b_str b_len b_all gl_LETTERS gl_LONGEST_NAME
 have CAN:=okAreNX GAN CI b_isinstance b_list b_all
 have CAU:=okUnlX (P:=l.prog) (w:=w) (base:=base) GAU b_len b_set
 have CAH:=okAreHX GAH CAN CAU b_len
 have CO2:=okOne2 GOO CI
 have CIT:=okTieX GIT CO2 b_isinstance b_tuple b_len
 have CAT:=okAreTX GAT CIT b_isinstance b_list b_len b_all
 have CTE:=okTied (P:=l.prog) (w:=w) (base:=base) GTE b_sorted
 have CST:=okSteps (P:=l.prog) (w:=w) (base:=base) GST
 have MKX:MkCal l.prog w K mg base (CXE l.prog w) 5 C "Tree" ["self","houses","ties"] (spInitX K C (cs 0)):=⟨_,_,okInitX T mIF CAH CAT CTE CST exT b_sorted b_min b_max b_len,mIM,mg_C,mIB⟩
 have MH:=okHouses (P:=l.prog) (w:=w) (mg:=mg) (base:=base) T mH b_list
 have MT:=okTies (P:=l.prog) (w:=w) (mg:=mg) (base:=base) T mT b_list
 have CM:=okMixed (P:=l.prog) (w:=w) (base:=base) GM
 have CD:=okDigits (P:=l.prog) (w:=w) (base:=base) GD
 have CN:=okNext GN CM
 have CW:=okWord GW CN b_range
 have CNM:=okNames GNa CN CW b_range b_len
 have CTU:=okTurned GTu CN b_len
 have CSH:=okShuf GSh CN b_len b_list
 have CTR:=okTree GTr CN CNM CSH b_range b_len
 have CMk:=okMk kn T GMk MKX MH MT mgT hex b_isinstance b_int b_ValueError
 have CLN:=okLN (P:=l.prog) (w:=w) (base:=base) GLN b_isinstance b_str b_len b_all
 have CLT:=okIT GLT CLN b_isinstance b_list b_tuple b_len b_all b_set
 have CRi:=okRi hsm GRi CMk CLT b_str b_sorted b_min b_max
 have CON:=okON GON CN b_len
 have COT:=okOT GOT CN CON b_len
 have CTO:=okTO GTO CN COT b_len b_tuple
 have CHO:=okHO GHO CN CON b_len b_tuple b_dict
 exact okLaw FL CD CN CTR CTU CTO CHO CRi b_all
theorem walk {l:PySem.W.OpenLaw} {q:Program} {loose:List Str} {XP:(Str->Option Value)->Heap->Prop} {YP:World->Heap->Prop} {d:DefRec} {K:Params->PySem.W.Frag} (hn:l.most=some 63) (himp:PyProof.Rows.importsNone q=true) (hdf:d.params.defaults=[])
  (hY:∀ (w:World) (h:Heap),YP w h->(K w.params).In h)
  (F:∀ (w:World) (mg:Str->Option Value) (fa:Addr) (h:Heap),(K w.params).In h->h.Ns mainGlobals mg->mg d.name=some (.ref fa) ->
   ∃ fd:FuncData,(∀ (s:Shared) (u:Value),BindsTo s fd ⟨[u],[]⟩ [("_law_script",u)])/\∀ base:Heap,(K w.params).In base->base.Ns mainGlobals mg->(∃ o,base.get? sysModules=some o)->LawOk l.prog w (K w.params) mg base 9 fa fd ["_law_script"] (spLaw (K w.params))) :
  PySem.W.WalkO q loose XP YP l.row.toRowW d [] (fun f vs=>PySem.call f vs):=
 L2.walk_ofM (n:=63) (k:=9) (x:="_law_script") (sp:=fun w=>spLaw (K w.params)) hn (by decide) himp hdf ⟨rfl,by decide,by decide⟩ hY F (fun _ _ a ns hl _ hS=>⟨a,ns,rfl,hS,hl,fun _=>rfl⟩)
end K03
open PySem PySem.W PyProof.Rows
set_option maxRecDepth 100000 in
set_option maxHeartbeats 0 in
theorem PySem.Challenge.cw_treeright_k03_what_is_no_tree_holds : PySem.Challenge.rw_treeright_k03_what_is_no_tree.Holds := by
 refine head ?_
 k_fill
 refine K03.walk (l:=PySem.Challenge.rw_treeright_k03_what_is_no_tree) rfl (by first | rfl | kernel_rfl | decide +kernel) rfl (fun w h Y=>PySem.W.kIn_of Y) ?F
 case F=>
  intro w mg fa h KX G hmg
  refine' K03.all_mk KX G hmg ?l0 ?l1 ?l2 ?l3 ?l4 ?l5 ?l6 ?l7 ?l8 ?l9 ?l10 ?l11 ?l12 ?l13 ?l14 ?l15 ?l16 ?l17 ?l18 ?l19 ?l20 ?l21 ?l22 ?l23 ?l24 ?aL ?lL ?k_C ?mC0 ?mC1 ?mC2 ?n_C_names ?n_C_pairs ?n_C_near ?z_isinstance ?z_str ?z_len ?z_all ?z_list ?z_tuple ?z_set ?z_sorted ?z_min ?z_max ?z_range ?z_int ?z_dict ?z_ValueError ?g_LETTERS ?g_LONGEST_NAME ?aX_0 ?aX_1 ?aX_2 ?aX_3 ?aX_4 ?aX_5 ?aX_6 ?aX_7 ?aX_8 ?aX_9 ?aX_10 ?aX_11 ?aX_12 ?xtab ?xall
  (case aL=>k_is)
  (case lL=>exact ⟨_,_,_,_,_,_,_,_,_,by k_is,by k_is,by k_is⟩)
  (case l0 | l1 | l2 | l3 | l4 | l5 | l6 | l7 | l8 | l9 | l10 | l11 | l12 | l13 | l14 | l15 | l16 | l17 | l18 | l19 | l20 | l21 | l22 | l23 | l24=>exact ⟨_,by k_is,_,_,_,_,_,_,_,_,_,by k_is,by k_is,by k_is⟩)
  (case k_C=>exact ⟨by k_is,by k_is,by k_is,by k_is,by k_is,by k_is,by k_is⟩)
  (case mC0 | mC1 | mC2=>exact ⟨_,by k_is,by k_is,_,_,_,_,_,_,_,_,_,by k_is,by k_is,by k_is⟩)
  (case n_C_names | n_C_pairs | n_C_near | z_isinstance | z_str | z_len | z_all | z_list | z_tuple | z_set | z_sorted | z_min | z_max | z_range | z_int | z_dict | z_ValueError | g_LETTERS | g_LONGEST_NAME=>k_is)
  (case aX_0=>k_is)
  (case aX_1=>k_is)
  (case aX_2=>k_is)
  (case aX_3=>k_is)
  (case aX_4=>k_is)
  (case aX_5=>k_is)
  (case aX_6=>k_is)
  (case aX_7=>k_is)
  (case aX_8=>k_is)
  (case aX_9=>k_is)
  (case aX_10=>k_is)
  (case aX_11=>k_is)
  (case aX_12=>k_is)
  (case xtab=>kernel_rfl)
  (case xall=>kernel_rfl)
