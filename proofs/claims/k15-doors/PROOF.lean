import PyProof.Rows.All
import Wide.All
import OpenK.AllK
import Wide.FinOn
import Lean
import PyProof.EqAt
import PyProof.EqKinds
import PyProof.TupleCall
import PySem.Challenge.RW_treeright_k15_refused_at_all_doors
noncomputable section
set_option Elab.async false
set_option linter.all false
set_option maxRecDepth 100000
namespace L2
open PySem PySem.Spec PyProof.Rows
abbrev Key:=Sum Int Str
def keyIs:Key->Value->Bool
 | .inl k,v=>Value.isInt k v
 | .inr x,v=>Value.isStrOf x v
def keyH (w:World):Key->Int
 | .inl k=>hashInt k
 | .inr x=>hashStr w x
theorem keyIs_shape:∀ {k:Key} {v:Value},keyIs k v=true->(∃ i t,k=Sum.inl i/\v=Value.int i t) \/ (∃ x t,k=Sum.inr x/\v=Value.str x t)
 | .inl i,v,h=>by
  obtain ⟨t,e⟩:=Value.isInt_shape (k:=i) (v:=v) h
  exact .inl ⟨i,t,rfl,e⟩
 | .inr x,v,h=>by
  obtain ⟨t,e⟩:=Value.isStrOf_shape (x:=x) (v:=v) h
  exact .inr ⟨x,t,rfl,e⟩
theorem keyIs_int (i:Int) (t:Tok):keyIs (.inl i) (.int i t)=true:=by simp [keyIs,Value.isInt]
theorem keyIs_str (x:Str) (t:Tok):keyIs (.inr x) (.str x t)=true:=by simp [keyIs,Value.isStrOf]
theorem key_ll (a b:Int):decide ((Sum.inl a:Key)=Sum.inl b)=(a == b):=by
 by_cases e:a=b
 ·subst e;simp
 ·have h:¬ (Sum.inl a:Key)=Sum.inl b:=fun q=>e (Sum.inl.inj q)
  rw [decide_eq_false h]
  exact (beq_eq_false_iff_ne.mpr e).symm
theorem key_rr (a b:Str):decide ((Sum.inr a:Key)=Sum.inr b)=decide (a=b):=by
 by_cases e:a=b
 ·subst e;simp
 ·have h:¬ (Sum.inr a:Key)=Sum.inr b:=fun q=>e (Sum.inr.inj q)
  rw [decide_eq_false h,decide_eq_false e]
theorem key_lr (a:Int) (b:Str):decide ((Sum.inl a:Key)=Sum.inr b)=false:=decide_eq_false (fun q=>nomatch q)
theorem key_rl (a:Str) (b:Int):decide ((Sum.inr a:Key)=Sum.inl b)=false:=decide_eq_false (fun q=>nomatch q)
def mixKind (prog:Program) (w:World):PySem.KeyKind prog w Key where
 is:=keyIs
 hash:=keyH w
 inj:=fun v a b ha hb=>by
  rcases keyIs_shape ha with ⟨i,t,rfl,rfl⟩ | ⟨x,t,rfl,rfl⟩
  ·rcases keyIs_shape hb with ⟨j,u,rfl,e⟩ | ⟨y,u,rfl,e⟩
   ·injection e with e1 _;rw [e1]
   ·exact nomatch e
  ·rcases keyIs_shape hb with ⟨j,u,rfl,e⟩ | ⟨y,u,rfl,e⟩
   ·exact nomatch e
   ·injection e with e1 _;rw [e1]
 byValue:=fun k v h=>by
  rcases keyIs_shape h with ⟨i,t,rfl,rfl⟩ | ⟨x,t,rfl,rfl⟩ <;> rfl
 pyHash:=fun hv h=>by
  rcases keyIs_shape hv with ⟨i,t,rfl,rfl⟩ | ⟨x,t,rfl,rfl⟩
  ·exact wpAny_pyHash_int h
  ·exact wpAny_pyHash_str h
 eqBool:=fun hu hv h=>by
  rcases keyIs_shape hu with ⟨i,t,rfl,rfl⟩ | ⟨x,t,rfl,rfl⟩
  ·rcases keyIs_shape hv with ⟨j,u,rfl,rfl⟩ | ⟨y,u,rfl,rfl⟩
   ·rw [key_ll] at h;exact wpAny_eqBool_int h
   ·rw [key_lr] at h;exact SeqAt.EqAt.int_str i t y u _ _ _ _ h
  ·rcases keyIs_shape hv with ⟨j,u,rfl,rfl⟩ | ⟨y,u,rfl,rfl⟩
   ·rw [key_rl] at h;exact SeqAt.EqAt.str_int x t j u _ _ _ _ h
   ·rw [key_rr] at h;exact wpAny_eqBool_str h
 «strs»:=fun k x t v h=>by
  rcases keyIs_shape h with ⟨i,u,rfl,e⟩ | ⟨y,u,rfl,e⟩
  ·exact nomatch e
  ·injection e with e1 _
   subst e1
   cases v <;> rfl
theorem mixKind_int (prog:Program) (w:World) (i:Int) (t:Tok):(mixKind prog w).is (.inl i) (.int i t)=true:=keyIs_int i t
theorem mixKind_str (prog:Program) (w:World) (x:Str) (t:Tok):(mixKind prog w).is (.inr x) (.str x t)=true:=keyIs_str x t
end L2
namespace L2
open PySem PySem.Spec PyProof.Rows
inductive V where
 | non | bl (b:Bool) | int (i:Int) | str (x:Str) | byt (b:Array UInt8) | flt (b:UInt64) | ref (a:Addr) | ty (n:String)
 deriving DecidableEq
def RelV:V->Value->Prop
 | .non,u=>u=Value.none
 | .bl b,u=>u=Value.bool b
 | .int i,u=>∃ t,u=Value.int i t
 | .str x,u=>∃ t,u=Value.str x t
 | .byt b,u=>∃ t,u=Value.bytes b t
 | .flt b,u=>∃ t,u=Value.float b t
 | .ref a,u=>u=Value.ref a
 | .ty n,u=>u=Value.type n
abbrev Vals:List V->List Value->Prop:=Paired RelV
theorem Vals.length {xs:List V} {us:List Value} (r:Vals xs us):xs.length=us.length:=Paired.length r
theorem Vals.get:∀ {xs:List V} {us:List Value} {i:Nat} {x:V},Vals xs us->xs[i]?=some x->∃ u,us[i]?=some u/\RelV x u
 | _,_,_,_,.nil,e=>by simp at e
 | _,_,0,_,.cons r _,e=>by simp at e;subst e;exact ⟨_,rfl,r⟩
 | _,_,i + 1,x,.cons _ t,e=>by
  obtain ⟨u,h1,h2⟩:=Vals.get (i:=i) (x:=x) t (by simpa using e)
  exact ⟨u,by simpa using h1,h2⟩
theorem Vals.set {x:V} {u:Value} (r:RelV x u):∀ {xs:List V} {us:List Value} (i:Nat),Vals xs us->Vals (xs.set i x) (us.set i u)
 | _,_,_,.nil=>.nil
 | _,_,0,.cons _ t=>.cons r t
 | _,_,i + 1,.cons q t=>.cons q (Vals.set r i t)
theorem Vals.append {xs ys:List V} {us ws:List Value} (h:Vals xs us) (s:Vals ys ws):Vals (xs ++ ys) (us ++ ws):=by
 induction h with
 | nil=>exact s
 | cons r _ ih=>exact .cons r ih
theorem Vals.take:∀ {xs:List V} {us:List Value} (n:Nat),Vals xs us->Vals (xs.take n) (us.take n)
 | _,_,0,_=>.nil
 | _,_,_ + 1,.nil=>.nil
 | _,_,n + 1,.cons r t=>.cons r (Vals.take n t)
theorem Vals.drop:∀ {xs:List V} {us:List Value} (n:Nat),Vals xs us->Vals (xs.drop n) (us.drop n)
 | _,_,0,r=>r
 | _,_,_ + 1,.nil=>.nil
 | _,_,n + 1,.cons _ t=>Vals.drop n t
def RelO:Option V->Option Value->Prop
 | some v,some u=>RelV v u
 | none,none=>True
 | _,_=>False
def KV {κ:Type}:List (κ × V)->List (κ × Value)->Prop:=Paired fun (p:κ × V) (q:κ × Value)=>p.1=q.1/\RelV p.2 q.2
def kV:Key->V
 | .inl i=>.int i
 | .inr x=>.str x
inductive HO where
 | lst (xs:List V)
 | tup (xs:List V)
 | dK (kvs:List (Key × V)) | dT (kvs:List (List Key × V))
 | set (S:Int->Bool) (n:Nat)
 | ins (C dx:Addr) (fs:List (Str × V))
 | own (x:Addr)
 | xd (fs:List (Str × V))
 | met (f x:Addr)
 | rng (lo hi:Int)
 | frz (o:Obj) (u:HO)
 | tbl (ps:Array Value)
 | ext (φ:Heap->Prop)
abbrev Hp:=Addr->Option HO
def upd (H:Hp) (a:Addr) (o:HO):Hp:=fun b=>if b=a then some o else H b
theorem upd_same {H:Hp} {a:Addr} {o:HO}:upd H a o a=some o:=by unfold upd;rw [if_pos rfl]
theorem upd_ne {H:Hp} {a b:Addr} {o:HO} (h:b ≠ a):upd H a o b=H b:=by unfold upd;rw [if_neg h]
theorem upd_upd {H:Hp} {a:Addr} {o u:HO}:upd (upd H a o) a u=upd H a u:=by
 funext b;unfold upd;split <;> rfl
theorem ne_of {H:Hp} {a b:Addr} {o u:HO} (h:H a=some o) (h':H b=some u) (d:o ≠ u):a ≠ b:=by
 intro e;subst e;rw [h] at h';exact d (Option.some.inj h')
theorem ne_of_none {H:Hp} {a b:Addr} {o:HO} (h:H a=some o) (h':H b=none):a ≠ b:=by
 intro e;subst e;rw [h] at h';cases h'
section
variable (P:Program) (w:World)
def ObjOk (H:Hp) (h:Heap) (a:Addr):HO->Prop
 | .lst xs=>xs.length <= sizeLine/\∃ (its:List Value) (n:Nat),Vals xs its/\h.get? a=some { cls:=.type "list",data:=.seq its.toArray n }
 | .tup xs=>xs.length <= sizeLine/\∃ its:List Value,Vals xs its/\IsTup h a its.toArray
 | .dK kvs=>kvs.length <= sizeLine/\(a == sysModules)=false/\∃ vs,KV kvs vs/\h.DictOf (mixKind P w) a vs
 | .dT kvs=>kvs.length <= sizeLine/\(a == sysModules)=false/\∃ xs:List (List Key × Addr × Value),
   Paired (fun (p:List Key × V) (q:List Key × Addr × Value)=>p.1=q.1/\H q.2.1=some (.tup (p.1.map kV))/\RelV p.2 q.2.2) kvs xs /\
   ∃ o es ep,h.get? a=some o/\o.ExactDict/\o.data=.dict es ep/\es.toList=xs.map (entryOfKey (tupleKind (mixKind P w)))/\(xs.map (·.1)).Nodup
 | .set S n=>h.SetOf (intKind P w) a S n
 | .ins C dx fs=>H dx=some (.own a)/\fs.length <= 1000/\dx ≠ a/\h.get? a=some (PySem.W.instObj C dx) /\
   ∃ mA,h.Ns1 dx mA/\(∀ f,RelO (fs.lookup f) (mA f))/\PySem.Within mA (fs.map (·.1))
 | .own _=>∃ o,h.get? a=some o
 | .xd fs=>∃ mA,h.Ns1 a mA/\∀ f,RelO (fs.lookup f) (mA f)
 | .rng lo hi=>∃ t u v,h.get? a=some { cls:=.type "range",data:=.fields #[.int lo t,.int hi u,.int 1 v] }
 | .frz o u=>h.get? a=some o/\ObjOk H h a u
 | .tbl ps=>h.get? a=some { cls:=.none,data:=.fields ps }
 | .met f x=>h.get? a=some (PySem.W.methodObj (.ref f) (.ref x))
 | .ext φ=>φ h/\(∃ o,h.get? a=some o)/\∀ h1 h2:Heap,φ h1->(∀ o,h1.get? a=some o->h2.get? a=some o)->φ h2
def HOk (H:Hp) (h:Heap):Prop:=∀ a o,H a=some o->ObjOk P w H h a o
end
section
variable {P:Program} {w:World} {H H':Hp} {h h':Heap} {a:Addr} {o:HO}
theorem ObjOk.lt (x:ObjOk P w H h a o):a < h.objs.size:=by
 cases o with
 | lst xs=>obtain ⟨_,_,_,_,e⟩:=x;exact Heap.lt_size e
 | tup xs=>obtain ⟨_,_,_,p⟩:=x;exact p.lt
 | dK kvs=>obtain ⟨_,_,_,_,o,_,_,e,_⟩:=x;exact Heap.lt_size e
 | dT kvs=>obtain ⟨_,_,_,_,o,_,_,e,_⟩:=x;exact Heap.lt_size e
 | set S n=>obtain ⟨o,_,_,_,e,_⟩:=x;exact Heap.lt_size e
 | ins C dx fs=>obtain ⟨_,_,_,e,_⟩:=x;exact Heap.lt_size e
 | own y=>obtain ⟨_,e⟩:=x;exact Heap.lt_size e
 | xd fs=>obtain ⟨_,⟨_,_,_,e,_⟩,_⟩:=x;exact Heap.lt_size e
 | rng lo hi=>obtain ⟨_,_,_,e⟩:=x;exact Heap.lt_size e
 | frz ob u=>obtain ⟨e,_⟩:=x;exact Heap.lt_size e
 | tbl ps=>exact Heap.lt_size (show h.get? a=some _ from x)
 | met f y=>exact Heap.lt_size (show h.get? a=some _ from x)
 | ext φ=>obtain ⟨_,⟨_,e⟩,_⟩:=x;exact Heap.lt_size e
theorem Paired.mapP {α β:Type} {F G:α->β->Prop} {l₁:List α} {l₂:List β} (h:Paired F l₁ l₂) (f:∀ a b,F a b->G a b):Paired G l₁ l₂:=by
 induction h with
 | nil=>exact .nil
 | cons r _ ih=>exact .cons (f _ _ r) ih
theorem ObjOk.stay (x:ObjOk P w H h a o) (k:∀ b u,(b=a \/ H b=some (.own a))->h.get? b=some u->h'.get? b=some u)
  (ho:∀ b,H b=some (.own a)->H' b=some (.own a)) (ht:∀ b xs,H b=some (.tup xs)->H' b=some (.tup xs)):ObjOk P w H' h' a o:=by
 induction o with
 | lst xs=>obtain ⟨z,its,n,r,e⟩:=x;exact ⟨z,its,n,r,k _ _ (.inl rfl) e⟩
 | tup xs=>obtain ⟨z,its,r,ob,e,c⟩:=x;exact ⟨z,its,r,ob,k _ _ (.inl rfl) e,c⟩
 | dK kvs=>obtain ⟨z,y,vs,r,ob,es,ep,e,c⟩:=x;exact ⟨z,y,vs,r,ob,es,ep,k _ _ (.inl rfl) e,c⟩
 | dT kvs=>
  obtain ⟨z,y,xs,r,ob,es,ep,e,c⟩:=x
  exact ⟨z,y,xs,Paired.mapP r fun p q z=>⟨z.1,ht _ _ z.2.1,z.2.2⟩,ob,es,ep,k _ _ (.inl rfl) e,c⟩
 | set S n=>obtain ⟨ob,es,ep,t,e,c⟩:=x;exact ⟨ob,es,ep,t,k _ _ (.inl rfl) e,c⟩
 | ins C dx fs=>
  obtain ⟨d,z,ne,e,mA,⟨od,es,ep,e2,c⟩,r⟩:=x
  exact ⟨ho _ d,z,ne,k _ _ (.inl rfl) e,mA,⟨od,es,ep,k _ _ (.inr d) e2,c⟩,r⟩
 | own y=>obtain ⟨ob,e⟩:=x;exact ⟨ob,k _ _ (.inl rfl) e⟩
 | xd fs=>obtain ⟨mA,⟨od,es,ep,e,c⟩,r⟩:=x;exact ⟨mA,⟨od,es,ep,k _ _ (.inl rfl) e,c⟩,r⟩
 | rng lo hi=>obtain ⟨t,u,v,e⟩:=x;exact ⟨t,u,v,k _ _ (.inl rfl) e⟩
 | frz ob u ih=>obtain ⟨e,q⟩:=x;exact ⟨k _ _ (.inl rfl) e,ih q⟩
 | tbl ps=>
  have e:h.get? a=some { cls:=.none,data:=.fields ps }:=x
  show h'.get? a=some { cls:=.none,data:=.fields ps }
  exact k a _ (.inl rfl) e
 | met f y=>
  have e:h.get? a=some (PySem.W.methodObj (.ref f) (.ref y)):=x
  show h'.get? a=some (PySem.W.methodObj (.ref f) (.ref y))
  exact k a _ (.inl rfl) e
 | ext φ=>obtain ⟨p,⟨o,e⟩,st⟩:=x;exact ⟨st _ _ p fun o q=>k _ _ (.inl rfl) q,⟨o,k _ _ (.inl rfl) e⟩,st⟩
theorem HOk.lt (x:HOk P w H h) (e:H a=some o):a < h.objs.size:=(x a o e).lt
theorem HOk.fresh (x:HOk P w H h) (e:h.objs.size <= a):H a=none:=by
 cases q:H a with
 | none=>rfl
 | some u=>exact absurd (Nat.lt_of_lt_of_le (x.lt q) e) (Nat.lt_irrefl _)
theorem HOk.kept (x:HOk P w H h) (k:∀ b u,h.get? b=some u->h'.get? b=some u):HOk P w H h':=fun a o e=>
 (x a o e).stay (fun b u _ q=>k b u q) (fun _ q=>q) fun _ _ q=>q
theorem HOk.laid (x:HOk P w H h) (k:∀ b u,h.get? b=some u->h'.get? b=some u) (hp:h.objs.size <= a) (new:ObjOk P w (upd H a o) h' a o):HOk P w (upd H a o) h':=fun b u e=>by
 have hn:=x.fresh hp
 by_cases hb:b=a
 ·subst hb;rw [upd_same] at e;cases e;exact new
 ·rw [upd_ne hb] at e
  exact (x b u e).stay (fun c v _ q=>k c v q) (fun c q=>by rw [upd_ne (ne_of_none q hn)];exact q) fun c xs q=>by rw [upd_ne (ne_of_none q hn)];exact q
end
def Rd (H:Hp) (a:Addr) (u:HO):Prop:=H a=some u \/ ∃ o,H a=some (.frz o u)
theorem Rd.ok {P:Program} {w:World} {H:Hp} {h:Heap} {a:Addr} {u:HO} (r:Rd H a u) (x:HOk P w H h):ObjOk P w H h a u:=by
 rcases r with r | ⟨o,r⟩
 ·exact x a u r
 ·obtain ⟨_,q⟩:=x a _ r
  exact q
def Mut:Option HO->Prop
 | some (.lst _)=>True
 | some (.dK _)=>True
 | some (.dT _)=>True
 | some (.set _ _)=>True
 | some (.ins _ _ _)=>True
 | some (.ext _)=>True
 | _=>False
section
variable {P:Program} {w:World} {H:Hp} {h h':Heap} {x e:Addr} {o':HO}
theorem HOk.write (ok:HOk P w H h) (mu:Mut (H x)) (he:e=x \/ H e=some (.own x)) (k:∀ b u,b ≠ e->h.get? b=some u->h'.get? b=some u) (heo:∃ u,h'.get? e=some u)
  (new:ObjOk P w (upd H x o') h' x o'):HOk P w (upd H x o') h':=fun b u q=>by
 have nown:∀ c y,H c=some (.own y)->c ≠ x:=fun c y r z=>by subst z;rw [r] at mu;exact mu
 have ntup:∀ c xs,H c=some (.tup xs)->c ≠ x:=fun c xs r z=>by subst z;rw [r] at mu;exact mu
 by_cases hb:b=x
 ·subst hb;rw [upd_same] at q;cases q;exact new
 ·rw [upd_ne hb] at q
  by_cases hbe:b=e
  ·have q':H b=some (.own x):=by
    rcases he with z | z
    ·exact absurd (hbe.trans z) hb
    ·rw [hbe];exact z
   rw [q] at q';cases q'
   obtain ⟨v,hv⟩:=heo
   exact ⟨v,by rw [hbe];exact hv⟩
  ·refine (ok b u q).stay (fun c v hc r=>k c v ?_ r) (fun c r=>by rw [upd_ne (nown c b r)];exact r) fun c xs r=>by rw [upd_ne (ntup c xs r)];exact r
   rcases hc with rfl | hc
   ·exact hbe
   ·rintro rfl
    rcases he with z | z
    ·exact nown c b hc z
    ·rw [hc] at z;cases z;exact hb rfl
end
structure Un (fs ex:List Addr) (H H':Hp) (h h':Heap):Prop where
 keep:∀ b o,h.get? b=some o->H b=none->b ∉ fs->b ∉ ex->h'.get? b=some o
 slot:∀ b o,h.get? b=some o->H b=none->b ∈ fs->b ∉ ex->∃ sl,h'.get? b=some { o with slots:=sl }
 free:∀ b o,h.get? b=some o->H b=none->b ∉ ex->H' b=none
 there:∀ b o,h.get? b=some o->b ∉ ex->∃ o',h'.get? b=some o'
 tups:∀ b xs,H b=some (.tup xs)->H' b=some (.tup xs)
 frzs:∀ b o u,H b=some (.frz o u)->H' b=some (.frz o u)
 tbls:∀ b ps,H b=some (.tbl ps)->∃ more,H' b=some (.tbl (ps ++ more))
section
variable {fs fs' ex ex':List Addr} {H H1 H2:Hp} {h h1 h2 h':Heap} {a x e:Addr} {o:HO}
theorem Un.any (u:Un fs ex H H1 h h1) {b:Addr} {ob:Obj} (q:h.get? b=some ob) (n:H b=none) (hx:b ∉ ex):∃ sl,h1.get? b=some { ob with slots:=sl }:=by
 by_cases hb:b ∈ fs
 ·exact u.slot b ob q n hb hx
 ·exact ⟨ob.slots,u.keep b ob q n hb hx⟩
theorem Un.kept (k:∀ b u,h.get? b=some u->h'.get? b=some u):Un fs ex H H h h':=
 ⟨fun b ob q _ _ _=>k b ob q,fun b ob q _ _ _=>⟨ob.slots,k b ob q⟩,fun _ _ _ n _=>n,fun b ob q _=>⟨ob,k b ob q⟩,fun _ _ q=>q,fun _ _ _ q=>q,fun _ ps q=>⟨#[],by rw [q];simp⟩⟩
theorem Un.refl:Un fs ex H H h h:=Un.kept fun _ _ q=>q
theorem Un.laid (k:∀ b u,h.get? b=some u->h'.get? b=some u) (hp:h.objs.size <= a) (hn:H a=none):Un fs ex H (upd H a o) h h' where
 keep:=fun b u q _ _ _=>k b u q
 slot:=fun b u q _ _ _=>⟨u.slots,k b u q⟩
 free:=fun b u q n _=>by rw [upd_ne (Nat.ne_of_lt (Nat.lt_of_lt_of_le (Heap.lt_size q) hp))];exact n
 there:=fun b u q _=>⟨u,k b u q⟩
 tups:=fun b xs q=>by rw [upd_ne (ne_of_none q hn)];exact q
 frzs:=fun b u xs q=>by rw [upd_ne (ne_of_none q hn)];exact q
 tbls:=fun b ps q=>⟨#[],by rw [upd_ne (ne_of_none q hn),q];simp⟩
theorem Un.write (mu:Mut (H x)) (he:e=x \/ H e=some (.own x)) (k:∀ b u,b ≠ e->h.get? b=some u->h'.get? b=some u) (heo:∃ u,h'.get? e=some u):Un fs ex H (upd H x o) h h':=by
 have hx:∀ b,H b=none->b ≠ x:=fun b n z=>by subst z;rw [n] at mu;exact mu
 have hb:∀ b,H b=none->b ≠ e:=fun b n z=>by
  subst z
  rcases he with r | r
  ·exact hx b n r
  ·rw [n] at r;cases r
 have hm:∀ b u,H b=some u->¬ Mut (some u)->b ≠ x:=fun b u q nm z=>by subst z;rw [q] at mu;exact nm mu
 refine ⟨fun b u q n _ _=>k b u (hb b n) q,fun b u q n _ _=>⟨u.slots,k b u (hb b n) q⟩,fun b u q n _=>by rw [upd_ne (hx b n)];exact n,fun b u q _=>?_,
  fun b xs q=>by rw [upd_ne (hm b _ q fun z=>z)];exact q,fun b u xs q=>by rw [upd_ne (hm b _ q fun z=>z)];exact q,fun b ps q=>⟨#[],by rw [upd_ne (hm b _ q fun z=>z),q];simp⟩⟩
 by_cases hbe:b=e
 ·subst hbe;exact heo
 ·exact ⟨u,k b u hbe q⟩
end
def trk (h:Heap) (H:Hp):List Addr:=(List.range h.objs.size).filter fun a=>(H a).isSome
def hidT (h:Heap) (H:Hp):Heap:=PySem.W.hideAll h (trk h H)
theorem hidT_size (h:Heap) (H:Hp):(hidT h H).objs.size=h.objs.size:=PySem.W.hideAll_size _ _
theorem hidT_get {h:Heap} {H:Hp} {b:Addr} {o:Obj} (e:h.get? b=some o) (n:H b=none):(hidT h H).get? b=some o:=
 PySem.W.hideAll_get _ e fun hm=>by
  have q:(H b).isSome=true:=(List.mem_filter.mp hm).2
  rw [n] at q;simp at q
theorem of_hidT {h:Heap} {H:Hp} {b:Addr} {o:Obj} (e:(hidT h H).get? b=some o):h.get? b=some o/\H b=none:=by
 have e':h.get? b=some o:=PySem.W.of_hideAll (trk h H) e
 refine ⟨e',?_⟩
 cases q:H b with
 | none=>rfl
 | some x=>
  have hm:b ∈ trk h H:=List.mem_filter.mpr ⟨List.mem_range.mpr (Heap.lt_size e'),by simp [q]⟩
  have z:(hidT h H).get? b=none:=PySem.W.hideAll_none (trk h H) hm
  rw [z] at e;cases e
end L2
namespace L2
open PySem PySem.Spec PyProof.Rows
structure Mod (K:PySem.W.Frag) (mg:Str->Option Value) (base:Heap):Prop where
 kin:K.In base
 glob:base.Ns mainGlobals mg
 blt:∃ mb,base.Ns builtinsNs mb/\∀ x:Str,x ≠ "__name__"->mb x=bootBuiltins x
 nolimit:base.NoLimit
structure Cx where
 prog:Program
 w:World
 K:PySem.W.Frag
 mg:Str->Option Value
 base:Heap
 A:Around
 N:List Str
 s₀:Shared
 H₀:Hp
 env:Env
 outer:List Env
 stack:List Env
 ex:List Addr
 fn:Str->Bool
 calm:Bool
 pn:List (Addr × Obj)
 xe:Value->Shared->Prop
def frs (l:List Env):List Addr:=l.filterMap (·.frame)
abbrev Cx.fs (X:Cx):List Addr:=frs X.outer
def Vis (sc:Scope) (x:Str):Prop:=sc.names.lookup x=some .local \/ sc.names.lookup x=some .cell \/ sc.names.lookup x=some .free
def Loc (sc:Scope) (x:Str):Prop:=sc.names.lookup x=some .local \/ sc.names.lookup x=some .cell
def Look (env:Env) (h:Heap) (m:Str->Option Value) (x:Str) (u:Value):Prop:=
 (env.kindOf x=some .local/\m x=some u) \/ ((env.kindOf x=some .cell \/ env.kindOf x=some .free)/\∃ c,env.cells.lookup x=some c/\h.IsCell c (some u))
structure Cx.Ok (X:Cx):Prop where
 mod:Mod X.K X.mg X.base
 kind:X.env.scope.kind=.function
 glob:X.env.globals=mainGlobals
 blt:X.env.builtins=builtinsNs
 above:X.s₀.heap.objs.size <= X.env.locals
 inj:∀ x y c,X.env.cells.lookup x=some c->X.env.cells.lookup y=some c->x=y
 has:∀ x,(X.env.kindOf x=some .cell \/ X.env.kindOf x=some .free)->∃ c,X.env.cells.lookup x=some c
 cab:∀ x c,X.fn x=true->X.env.cells.lookup x=some c->X.s₀.heap.objs.size <= c
 hd:X.calm=true->X.A.handled=none
 frames:X.A.frames=some X.stack
 stk:X.stack=X.outer \/ (X.stack=X.env :: X.outer/\X.env.frame=some X.env.locals)
 exf:∀ b ∈ X.ex,b ≠ X.env.locals/\∀ x c,X.env.cells.lookup x=some c->c ≠ b
 bs:∀ b o,X.base.get? b=some o->X.s₀.heap.get? b=some o/\X.H₀ b=none
 bsz:X.base.objs.size <= X.s₀.heap.objs.size
 noex:∀ b o,X.base.get? b=some o->b ∉ X.ex
 exfs:∀ b ∈ X.ex,b ∉ X.fs
 funs:X.s₀.heap.FunFrames X.base X.outer
 frf:∀ b ∈ X.fs,X.H₀ b=none
structure Inv (X:Cx) (pins:List (Addr × Obj)) (σ:List (Option V)) (H:Hp) (s:Shared):Prop where
 ok:X.Ok
 os:s.os=X.s₀.os
 bare:AllBare s.gens
 base:Un X.fs X.ex X.H₀ H X.s₀.heap s.heap
 loc:∃ m,s.heap.Ns X.env.locals m/\∀ (i:Nat) (x:Str) (v:V),X.N[i]?=some x->σ[i]?=some (some v)->Vis X.env.scope x->∃ u,RelV v u/\Look X.env s.heap m x u
 cell:∀ x c,X.env.cells.lookup x=some c->∃ v,s.heap.IsCell c v
 free:H X.env.locals=none
 freeC:∀ x c,X.env.cells.lookup x=some c->H c=none
 pin:∀ p ∈ X.pn ++ pins,s.heap.get? p.1=some p.2/\H p.1=none/\p.1 ≠ X.env.locals/\p.1 ∉ X.fs/\∀ v,p.2.data ≠ .cell v
 hok:HOk X.prog X.w H s.heap
 len:σ.length=X.N.length
section
variable {X:Cx} {pins:List (Addr × Obj)} {σ:List (Option V)} {H H':Hp} {s:Shared} {h':Heap}
theorem Cx.Ok.nofr (ok:X.Ok) {b:Addr} {o:Obj} (e:X.base.get? b=some o):b ∉ X.fs:=fun hb=>by
 have:=(ok.funs.mem hb).1
 rw [e] at this;cases this
theorem Inv.bs (I:Inv X pins σ H s):∀ b o,X.base.get? b=some o->s.heap.get? b=some o/\H b=none:=fun b o e=>
 ⟨I.base.keep b o (I.ok.bs b o e).1 (I.ok.bs b o e).2 (I.ok.nofr e) (I.ok.noex b o e),I.base.free b o (I.ok.bs b o e).1 (I.ok.bs b o e).2 (I.ok.noex b o e)⟩
theorem Inv.bk (I:Inv X pins σ H s):∀ b o,X.base.get? b=some o->s.heap.get? b=some o:=fun b o e=>(I.bs b o e).1
theorem Inv.mod (I:Inv X pins σ H s):Mod X.K X.mg X.base:=I.ok.mod
theorem Inv.kIn (I:Inv X pins σ H s):X.K.In s.heap:=I.ok.mod.kin.keeps I.bk
theorem Inv.lt (I:Inv X pins σ H s):X.env.locals < s.heap.objs.size:=let ⟨_,hn,_⟩:=I.loc;hn.lt
theorem Inv.sz (I:Inv X pins σ H s):X.s₀.heap.objs.size <= s.heap.objs.size:=Nat.le_trans I.ok.above (Nat.le_of_lt I.lt)
theorem Inv.nofs (I:Inv X pins σ H s) {a:Addr} (h:s.heap.objs.size <= a):a ∉ X.fs:=fun hb=>by
 obtain ⟨_,o,ho,_⟩:=I.ok.funs.mem hb
 exact absurd (Nat.lt_of_lt_of_le (Heap.lt_size ho) (Nat.le_trans I.sz h)) (Nat.lt_irrefl _)
theorem Inv.cne (I:Inv X pins σ H s):∀ x c,X.env.cells.lookup x=some c->c ≠ X.env.locals:=fun x c e z=>by
 obtain ⟨v,o,ho,hd⟩:=I.cell x c e
 obtain ⟨m,⟨o',es,ep,ho',hd',_⟩,_⟩:=I.loc
 rw [z,ho'] at ho;cases ho;rw [hd'] at hd;cases hd
theorem Inv.funs (I:Inv X pins σ H s):s.heap.FunFrames X.base X.outer:=by
 have all:∀ (l:List Env),(∀ b ∈ frs l,b ∈ X.fs)->X.s₀.heap.FunFrames X.base l->s.heap.FunFrames X.base l:=by
  intro l
  induction l with
  | nil=>intro _ _;trivial
  | cons env r ih=>
   intro hs hl
   obtain ⟨hk,⟨L,o,hf,hn,ho,hd⟩,hr⟩:=hl
   have hL:L ∈ X.fs:=hs L (by unfold frs;rw [List.filterMap_cons,hf];exact List.mem_cons_self)
   obtain ⟨sl,e⟩:=I.base.slot L o ho (I.ok.frf L hL) hL fun z=>I.ok.exfs L z hL
   exact ⟨hk,⟨L,_,hf,hn,e,hd⟩,ih (fun b hb=>hs b (by unfold frs;rw [List.filterMap_cons,hf];exact List.mem_cons_of_mem _ hb)) hr⟩
 exact all X.outer (fun _ hb=>hb) I.ok.funs
theorem Inv.stack (I:Inv X pins σ H s):s.heap.FunFrames X.base X.stack:=by
 rcases I.ok.stk with e | ⟨e,hf⟩
 ·rw [e];exact I.funs
 ·rw [e]
  obtain ⟨m,hn,_⟩:=I.loc
  refine .cons (by rw [I.ok.kind];decide) hf hn ?_ I.funs
  exact Heap.get?_none_of_le (Nat.le_trans I.ok.bsz I.ok.above)
theorem Inv.stkSub (I:Inv X pins σ H s):∀ b ∈ frs X.stack,b ∈ X.env.locals :: X.fs:=fun b hb=>by
 rcases I.ok.stk with e | ⟨e,hf⟩
 ·rw [e] at hb;exact List.mem_cons_of_mem _ hb
 ·rw [e] at hb
  unfold frs at hb
  rw [List.filterMap_cons,hf] at hb
  exact hb
theorem Inv.stkFree (I:Inv X pins σ H s):∀ b ∈ frs X.stack,H b=none:=fun b hb=>by
 rcases List.mem_cons.mp (I.stkSub b hb) with e | hb
 ·rw [e];exact I.free
 ·obtain ⟨_,o,ho,_⟩:=I.ok.funs.mem hb
  exact I.base.free b o ho (I.ok.frf b hb) fun z=>I.ok.exfs b z hb
theorem Inv.step {g':Array GenState} {t':Nat} {d':Drawn} {ch:List Addr} (I:Inv X pins σ H s)
  (hch:∀ b ∈ ch,(b ∈ X.ex \/ X.s₀.heap.objs.size <= b)/\b ≠ X.env.locals/\(∀ x c,X.env.cells.lookup x=some c->c ≠ b)/\∀ p ∈ X.pn ++ pins,p.1 ≠ b)
  (keep:∀ b o,b ≠ X.env.locals->b ∉ X.fs->b ∉ ch->s.heap.get? b=some o->H b=none->h'.get? b=some o)
  (slot:∀ b o,b ≠ X.env.locals->b ∈ X.fs->b ∉ ch->s.heap.get? b=some o->H b=none->∃ sl,h'.get? b=some { o with slots:=sl }) (free:∀ b o,b ∉ ch->s.heap.get? b=some o->H b=none->H' b=none)
  (there:∀ b o,b ∉ ch->s.heap.get? b=some o->∃ o',h'.get? b=some o')
  (tups:∀ b xs,H b=some (.tup xs)->H' b=some (.tup xs)) (frzs:∀ b o u,H b=some (.frz o u)->H' b=some (.frz o u)) (tbls:∀ b ps,H b=some (.tbl ps)->∃ more,H' b=some (.tbl (ps ++ more)))
  (ns:∀ m,s.heap.Ns X.env.locals m->h'.Ns X.env.locals m) (hok:HOk X.prog X.w H' h') (hg:AllBare g') :
  Inv X pins σ H' { s with heap:=h',gens:=g',drawn:=d',toks:=t' }:=by
 have neL:∀ b o,X.s₀.heap.get? b=some o->b ≠ X.env.locals:=fun b o e=>Nat.ne_of_lt (Nat.lt_of_lt_of_le (Heap.lt_size e) I.ok.above)
 have neC:∀ b o,X.s₀.heap.get? b=some o->b ∉ X.ex->b ∉ ch:=fun b o e hx hb=>by
  rcases (hch b hb).1 with z | z
  ·exact hx z
  ·exact absurd (Nat.lt_of_lt_of_le (Heap.lt_size e) z) (Nat.lt_irrefl _)
 have cellK:∀ x c,X.env.cells.lookup x=some c->∀ v,s.heap.IsCell c v->h'.IsCell c v:=fun x c e v ⟨o,ho,hd⟩=>by
  have nch:c ∉ ch:=fun z=>(hch c z).2.2.1 x c e rfl
  by_cases hc:c ∈ X.fs
  ·obtain ⟨sl,q⟩:=slot c o (I.cne x c e) hc nch ho (I.freeC x c e)
   exact ⟨_,q,hd⟩
  ·exact ⟨o,keep c o (I.cne x c e) hc nch ho (I.freeC x c e),hd⟩
 refine ⟨I.ok,I.os,hg,⟨fun b o e n hb hx=>?_,fun b o e n hb hx=>?_,fun b o e n hx=>?_,fun b o e hx=>?_,fun b xs e=>tups b xs (I.base.tups b xs e),fun b o xs e=>frzs b o xs (I.base.frzs b o xs e),fun b ps e=>?_⟩,?_,fun x c e=>?_,?_,fun x c e=>?_,fun p hp=>?_,hok,I.len⟩
 ·exact keep b o (neL b o e) hb (neC b o e hx) (I.base.keep b o e n hb hx) (I.base.free b o e n hx)
 ·obtain ⟨sl,e1⟩:=I.base.slot b o e n hb hx
  obtain ⟨sl',e2⟩:=slot b _ (neL b o e) hb (neC b o e hx) e1 (I.base.free b o e n hx)
  exact ⟨sl',e2⟩
 ·obtain ⟨o',e1⟩:=I.base.there b o e hx
  exact free b o' (neC b o e hx) e1 (I.base.free b o e n hx)
 ·obtain ⟨o',e1⟩:=I.base.there b o e hx
  exact there b o' (neC b o e hx) e1
 ·obtain ⟨m1,e1⟩:=I.base.tbls b ps e
  obtain ⟨m2,e2⟩:=tbls b _ e1
  exact ⟨m1 ++ m2,by rw [e2,Array.append_assoc]⟩
 ·obtain ⟨m,hn,hl⟩:=I.loc
  refine ⟨m,ns m hn,fun i x v e1 e2 e3=>?_⟩
  obtain ⟨u,r,l⟩:=hl i x v e1 e2 e3
  refine ⟨u,r,?_⟩
  rcases l with l | ⟨k,c,e,z⟩
  ·exact .inl l
  ·exact .inr ⟨k,c,e,cellK x c e _ z⟩
 ·obtain ⟨v,z⟩:=I.cell x c e
  exact ⟨v,cellK x c e v z⟩
 ·obtain ⟨m,⟨o,_,_,ho,_⟩,_⟩:=I.loc
  exact free _ o (fun z=>(hch _ z).2.1 rfl) ho I.free
 ·obtain ⟨v,o,ho,hd⟩:=I.cell x c e
  exact free c o (fun z=>(hch c z).2.2.1 x c e rfl) ho (I.freeC x c e)
 ·obtain ⟨e,n,ne,nf,d⟩:=I.pin p hp
  have nch:p.1 ∉ ch:=fun z=>(hch p.1 z).2.2.2 p hp rfl
  exact ⟨keep p.1 p.2 ne nf nch e n,free p.1 p.2 nch e n,ne,nf,d⟩
theorem Inv.un {t':Nat} (I:Inv X pins σ H s) (u:Un X.fs [] H H' s.heap h') (hok:HOk X.prog X.w H' h'):Inv X pins σ H' { s with heap:=h',toks:=t' }:=by
 obtain ⟨m,⟨o,es,ep,ho,r⟩,_⟩:=id I.loc
 obtain ⟨sl,hL⟩:=u.any ho I.free (by simp)
 exact I.step (g':=s.gens) (d':=s.drawn) (ch:=[]) (fun _ z=>nomatch z) (fun b o _ hb _ e n=>u.keep b o e n hb (by simp)) (fun b o _ hb _ e n=>u.slot b o e n hb (by simp)) (fun b o _ e n=>u.free b o e n (by simp)) (fun b o _ e=>u.there b o e (by simp)) u.tups u.frzs u.tbls (fun m' hm=>by
  obtain ⟨o',es',ep',ho',r'⟩:=hm
  rw [ho] at ho';cases ho'
  exact ⟨_,es',ep',hL,r'⟩) hok I.bare
theorem Inv.call {g':Array GenState} {t':Nat} {d':Drawn} {ch:List Addr} (I:Inv X pins σ H s) (u:Un (frs X.stack) ch H H' s.heap h') (hok:HOk X.prog X.w H' h') (hg:AllBare g')
  (hch:∀ b ∈ ch,(b ∈ X.ex \/ X.s₀.heap.objs.size <= b)/\b ≠ X.env.locals/\(∀ x c,X.env.cells.lookup x=some c->c ≠ b)/\∀ p ∈ X.pn ++ pins,p.1 ≠ b) :
  Inv X pins σ H' { s with heap:=h',gens:=g',drawn:=d',toks:=t' }:=by
 obtain ⟨m,⟨o,es,ep,ho,r⟩,_⟩:=id I.loc
 obtain ⟨sl,hL⟩:=u.any ho I.free fun z=>(hch _ z).2.1 rfl
 exact I.step (ch:=ch) hch (fun b o hL hb hc e n=>u.keep b o e n (fun z=>(List.mem_cons.mp (I.stkSub b z)).elim hL hb) hc) (fun b o _ _ hc e n=>u.any e n hc) (fun b o hc e n=>u.free b o e n hc) (fun b o hc e=>u.there b o e hc) u.tups u.frzs u.tbls (fun m' hm=>by
  obtain ⟨o',es',ep',ho',r'⟩:=hm
  rw [ho] at ho';cases ho'
  exact ⟨_,es',ep',hL,r'⟩) hok hg
theorem Inv.turned {t':Nat} {it:Addr} (I:Inv X pins σ H s) (k:∀ b o,b ≠ it->s.heap.get? b=some o->h'.get? b=some o) (hn:H it=none) (hL:it ≠ X.env.locals)
  (h1:it ∈ X.ex \/ X.s₀.heap.objs.size <= it) (h2:∀ x c,X.env.cells.lookup x=some c->c ≠ it) (h3:∀ p ∈ X.pn ++ pins,p.1 ≠ it):Inv X pins σ H { s with heap:=h',toks:=t' }:=by
 have nit:∀ b u,H b=some u->b ≠ it:=fun b u e z=>by rw [z,hn] at e;cases e
 refine I.step (g':=s.gens) (d':=s.drawn) (ch:=[it]) (fun b hb=>?_) (fun b o _ _ hc e _=>k b o (fun z=>hc (by simp [z])) e) (fun b o _ _ hc e _=>⟨o.slots,k b o (fun z=>hc (by simp [z])) e⟩) (fun _ _ _ _ n=>n)
  (fun b o hc e=>⟨o,k b o (fun z=>hc (by simp [z])) e⟩) (fun _ _ e=>e) (fun _ _ _ e=>e) (fun b ps e=>⟨#[],by rw [e];simp⟩) (fun m hm=>?_) (fun b u e=>?_) I.bare
 ·have e:b=it:=by simpa using hb
  subst e
  exact ⟨h1,hL,h2,h3⟩
 ·obtain ⟨o,es,ep,ho,r⟩:=hm
  exact ⟨o,es,ep,k _ o (Ne.symm hL) ho,r⟩
 ·refine (I.hok b u e).stay (fun c v hc q=>k c v ?_ q) (fun _ q=>q) fun _ _ q=>q
  rcases hc with z | z
  ·rw [z];exact nit b u e
  ·exact nit c _ z
theorem Inv.tok (I:Inv X pins σ H s) (t:Nat):Inv X pins σ H { s with toks:=t }:=I.un (h':=s.heap) (t':=t) Un.refl I.hok
theorem Inv.kept {t':Nat} (I:Inv X pins σ H s) (k:∀ b u,s.heap.get? b=some u->h'.get? b=some u):Inv X pins σ H { s with heap:=h',toks:=t' }:=I.un (Un.kept k) (I.hok.kept k)
theorem Inv.laid {a:Addr} {o:HO} {t':Nat} (I:Inv X pins σ H s) (k:∀ b u,s.heap.get? b=some u->h'.get? b=some u) (hp:s.heap.objs.size <= a) (new:ObjOk X.prog X.w (upd H a o) h' a o) :
  Inv X pins σ (upd H a o) { s with heap:=h',toks:=t' }:=I.un (Un.laid k hp (I.hok.fresh hp)) (I.hok.laid k hp new)
theorem Inv.write {x e:Addr} {o:HO} {t':Nat} (I:Inv X pins σ H s) (mu:Mut (H x)) (he:e=x \/ H e=some (.own x)) (k:∀ b u,b ≠ e->s.heap.get? b=some u->h'.get? b=some u) (heo:∃ u,h'.get? e=some u)
  (new:ObjOk X.prog X.w (upd H x o) h' x o):Inv X pins σ (upd H x o) { s with heap:=h',toks:=t' }:=I.un (Un.write mu he k heo) (I.hok.write mu he k heo new)
theorem Inv.pins_of {pins':List (Addr × Obj)} (I:Inv X pins σ H s) (h:∀ p ∈ pins',s.heap.get? p.1=some p.2/\H p.1=none/\p.1 ≠ X.env.locals/\p.1 ∉ X.fs/\∀ v,p.2.data ≠ .cell v):Inv X pins' σ H s:=
 ⟨I.ok,I.os,I.bare,I.base,I.loc,I.cell,I.free,I.freeC,fun p hp=>(List.mem_append.mp hp).elim (fun z=>I.pin p (List.mem_append_left _ z)) (h p),I.hok,I.len⟩
theorem nodup_ix {N:List Str} (hN:N.Nodup) {i j:Nat} {x:Str} (a:N[i]?=some x) (b:N[j]?=some x):i=j:=by
 obtain ⟨h1,e1⟩:=List.getElem?_eq_some_iff.mp a
 obtain ⟨h2,e2⟩:=List.getElem?_eq_some_iff.mp b
 exact (List.getElem_inj hN).mp (e1.trans e2.symm)
theorem store_ok2 {M:Model} {A:Around} {E:Value->Shared->Prop} {i:Nat} {x:Str} {v:V} {u:Value} {Q:Unit->Shared->Prop} (I:Inv X pins σ H s) (hN:X.N.Nodup) (hi:X.N[i]?=some x) (hx:Loc X.env.scope x) (r:RelV v u)
  (h:∀ s',Inv X pins (σ.set i (some v)) H s'->(∃ a,Heap.SameBut a s.heap s'.heap/\(a=X.env.locals \/ X.env.cells.lookup x=some a))->Q () s') (hf:X.fn x=true \/ X.env.scope.names.lookup x=some .local:=by first | exact .inl rfl | exact .inr rfl | assumption):wpAny M A (storeName X.env x u) Q E s:=by
 obtain ⟨m,hn,hl⟩:=id I.loc
 have hcls:(X.env.scope.kind == .class || (X.env.scope.kind == .module && X.env.locals != X.env.globals))=false:=by rw [I.ok.kind];rfl
 have hiσ:i < σ.length:=by rw [I.len];exact (List.getElem?_eq_some_iff.mp hi).1
 have cne:=I.cne
 have tracked:∀ {a:Addr} {h':Heap},(∃ o,s.heap.get? a=some o/\H a=none)->Heap.SameBut a s.heap h'->HOk X.prog X.w H h':=fun {a h'} ha hs b ob e=>by
  obtain ⟨_,_,hfree⟩:=ha
  refine (I.hok b ob e).stay (fun c w' hc q=>(hs.2 c ?_).trans q) (fun _ q=>q) fun _ _ q=>q
  rintro rfl
  rcases hc with rfl | hc
  ·rw [hfree] at e;cases e
  ·rw [hfree] at hc;cases hc
 rcases hx with hk | hk
 ·refine wpAny_storeName_local hk hn (fun h' hn' hs=>?_) hcls
  obtain ⟨oL,_,_,hoL,_⟩:=id hn
  refine h _ ⟨I.ok,I.os,I.bare,⟨fun b o e n hb hx=>?_,fun b o e n hb hx=>?_,I.base.free,fun b o e hx=>?_,I.base.tups,I.base.frzs,I.base.tbls⟩,⟨_,hn',fun j y v' e1 e2 e3=>?_⟩,fun y c e=>?_,I.free,I.freeC,fun p hp=>?_,tracked ⟨oL,hoL,I.free⟩ hs,by simpa using I.len⟩ ⟨_,hs,.inl rfl⟩
  ·exact (hs.2 b (Nat.ne_of_lt (Nat.lt_of_lt_of_le (Heap.lt_size e) I.ok.above))).trans (I.base.keep b o e n hb hx)
  ·obtain ⟨sl,e1⟩:=I.base.slot b o e n hb hx
   exact ⟨sl,(hs.2 b (Nat.ne_of_lt (Nat.lt_of_lt_of_le (Heap.lt_size e) I.ok.above))).trans e1⟩
  ·obtain ⟨o',e1⟩:=I.base.there b o e hx
   exact ⟨o',(hs.2 b (Nat.ne_of_lt (Nat.lt_of_lt_of_le (Heap.lt_size e) I.ok.above))).trans e1⟩
  ·by_cases hj:j=i
   ·subst hj
    rw [hi] at e1;cases e1
    rw [List.getElem?_set_self hiσ] at e2
    cases e2
    exact ⟨u,r,.inl ⟨hk,by simp⟩⟩
   ·rw [List.getElem?_set_ne (Ne.symm hj)] at e2
    obtain ⟨u',r',q⟩:=hl j y v' e1 e2 e3
    refine ⟨u',r',?_⟩
    rcases q with ⟨k,e⟩ | ⟨k,c,e,z⟩
    ·refine .inl ⟨k,?_⟩
     have:y ≠ x:=fun e=>hj (nodup_ix hN e1 (e ▸ hi))
     simp [this,e]
    ·exact .inr ⟨k,c,e,z.sameBut hs (cne y c e)⟩
  ·obtain ⟨w',z⟩:=I.cell y c e
   exact ⟨w',z.sameBut hs (cne y c e)⟩
  ·obtain ⟨e,n,ne,nf,d⟩:=I.pin p hp
   exact ⟨(hs.2 p.1 ne).trans e,n,ne,nf,d⟩
 ·have hfn:X.fn x=true:=by
   rcases hf with z | z
   ·exact z
   ·rw [z] at hk;cases hk
  obtain ⟨c,hc⟩:=I.ok.has x (.inl hk)
  obtain ⟨w',z⟩:=I.cell x c hc
  refine wpAny_storeName_cell I.ok.kind hk hc z (fun h' hc' hs=>?_)
  obtain ⟨oc,hoc,hocd⟩:=id z
  refine h { s with heap:=h' } ⟨I.ok,I.os,I.bare,⟨fun b o e n hb hx=>?_,fun b o e n hb hx=>?_,I.base.free,fun b o e hx=>?_,I.base.tups,I.base.frzs,I.base.tbls⟩,⟨m,hn.sameBut hs (Ne.symm (cne x c hc)),fun j y v' e1 e2 e3=>?_⟩,fun y c' e=>?_,I.free,I.freeC,fun p hp=>?_,tracked ⟨oc,hoc,I.freeC x c hc⟩ hs,by simpa using I.len⟩ ⟨c,hs,.inr hc⟩
  ·exact (hs.2 b (Nat.ne_of_lt (Nat.lt_of_lt_of_le (Heap.lt_size e) (I.ok.cab x c hfn hc)))).trans (I.base.keep b o e n hb hx)
  ·obtain ⟨sl,e1⟩:=I.base.slot b o e n hb hx
   exact ⟨sl,(hs.2 b (Nat.ne_of_lt (Nat.lt_of_lt_of_le (Heap.lt_size e) (I.ok.cab x c hfn hc)))).trans e1⟩
  ·obtain ⟨o',e1⟩:=I.base.there b o e hx
   exact ⟨o',(hs.2 b (Nat.ne_of_lt (Nat.lt_of_lt_of_le (Heap.lt_size e) (I.ok.cab x c hfn hc)))).trans e1⟩
  ·by_cases hj:j=i
   ·subst hj
    rw [hi] at e1;cases e1
    rw [List.getElem?_set_self hiσ] at e2
    cases e2
    exact ⟨u,r,.inr ⟨.inl hk,c,hc,hc'⟩⟩
   ·rw [List.getElem?_set_ne (Ne.symm hj)] at e2
    obtain ⟨u',r',q⟩:=hl j y v' e1 e2 e3
    refine ⟨u',r',?_⟩
    rcases q with q | ⟨k,c',e,z'⟩
    ·exact .inl q
    ·refine .inr ⟨k,c',e,z'.sameBut hs ?_⟩
     rintro rfl
     exact hj (nodup_ix hN e1 (I.ok.inj _ _ _ e hc ▸ hi))
  ·by_cases hcc:c'=c
   ·subst hcc;exact ⟨_,hc'⟩
   ·obtain ⟨w2,z2⟩:=I.cell y c' e
    exact ⟨w2,z2.sameBut hs hcc⟩
  ·obtain ⟨e,n,ne,nf,d⟩:=I.pin p hp
   refine ⟨(hs.2 p.1 ?_).trans e,n,ne,nf,d⟩
   intro q
   rw [q,hoc] at e
   have q':oc=p.2:=Option.some.inj e
   exact d w' (by rw [<- q'];exact hocd)
theorem store_ok {M:Model} {A:Around} {E:Value->Shared->Prop} {i:Nat} {x:Str} {v:V} {u:Value} {Q:Unit->Shared->Prop} (I:Inv X pins σ H s) (hN:X.N.Nodup) (hi:X.N[i]?=some x) (hx:Loc X.env.scope x) (r:RelV v u)
  (h:∀ s',Inv X pins (σ.set i (some v)) H s'->Q () s') (hf:X.fn x=true \/ X.env.scope.names.lookup x=some .local:=by first | exact .inl rfl | exact .inr rfl | assumption):wpAny M A (storeName X.env x u) Q E s:=
 store_ok2 I hN hi hx r (fun s' I' _=>h s' I') hf
theorem Inv.call' {s':Shared} {ch:List Addr} (I:Inv X pins σ H s) (ho:s'.os=s.os) (u:Un (frs X.stack) ch H H' s.heap s'.heap) (hok:HOk X.prog X.w H' s'.heap) (hg:AllBare s'.gens)
  (hch:∀ b ∈ ch,(b ∈ X.ex \/ X.s₀.heap.objs.size <= b)/\b ≠ X.env.locals/\(∀ x c,X.env.cells.lookup x=some c->c ≠ b)/\∀ p ∈ X.pn ++ pins,p.1 ≠ b):Inv X pins σ H' s':=by
 obtain ⟨h',g',d',t',o'⟩:=s'
 have e:o'=s.os:=ho
 subst e
 exact I.call (g':=g') (t':=t') (d':=d') u hok hg hch
end
abbrev XK:=Value->Option Addr->Hp->Prop
abbrev St:=List (Option V)
abbrev VK:=V->Hp->Prop
abbrev TE:=St->Hp->VK->Prop
abbrev TT:=St->Hp->(Bool->Hp->Prop)->Prop
abbrev TA:=St->Hp->(List V->Hp->Prop)->Prop
structure Ends where
 nx:St->Hp->Prop
 rt:VK
 bk:St->Hp->Prop:=fun _ _=>False
 ct:St->Hp->Prop:=fun _ _=>False
abbrev TS:=Ends->St->Hp->Prop
def EP (X:Cx) (pins:List (Addr × Obj)) (σ:St) (Q:VK) (u:Value) (s':Shared):Prop:=∃ v H',Inv X pins σ H' s'/\RelV v u/\Q v H'
def TP (X:Cx) (pins:List (Addr × Obj)) (σ:St) (Q:Bool->Hp->Prop) (b:Bool) (s':Shared):Prop:=∃ H',Inv X pins σ H' s'/\Q b H'
def AP (X:Cx) (pins:List (Addr × Obj)) (σ:St) (Q:List V->Hp->Prop) (us:List Value) (s':Shared):Prop:=∃ vs H',Inv X pins σ H' s'/\Vals vs us/\Q vs H'
def SP (X:Cx) (pins:List (Addr × Obj)) (D:Ends) (f:Flow) (s':Shared):Prop:=
 match f with
 | .next=>∃ σ' H',Inv X pins σ' H' s'/\D.nx σ' H'
 | .brk=>∃ σ' H',Inv X pins σ' H' s'/\D.bk σ' H'
 | .cont=>∃ σ' H',Inv X pins σ' H' s'/\D.ct σ' H'
 | .ret u=>∃ v σ' H',Inv X pins σ' H' s'/\RelV v u/\D.rt v H'
def PE (X:Cx) (e:Expr) (t:TE):Prop:=
 ∀ (pins:List (Addr × Obj)) (s:Shared) (σ:St) (H:Hp) (Q:VK),Inv X pins σ H s->t σ H Q->wpAny (model X.prog X.w) X.A (eval e X.env) (EP X pins σ Q) X.xe s
def PT (X:Cx) (e:Expr) (t:TT):Prop:=
 ∀ (pins:List (Addr × Obj)) (s:Shared) (σ:St) (H:Hp) (Q:Bool->Hp->Prop),Inv X pins σ H s->t σ H Q->wpAny (model X.prog X.w) X.A (isTrue e X.env (eval e X.env)) (TP X pins σ Q) X.xe s
def PW (X:Cx) (e:Expr) (t:TT):Prop:=
 ∀ (whole:Sem Value) (pins:List (Addr × Obj)) (s:Shared) (σ:St) (H:Hp) (Q:Bool->Hp->Prop),Inv X pins σ H s->t σ H Q->wpAny (model X.prog X.w) X.A (isTrue e X.env whole) (TP X pins σ Q) X.xe s
theorem PW.pt {X:Cx} {e:Expr} {t:TT} (h:PW X e t):PT X e t:=h _
def PA (X:Cx) (es:List Expr) (t:TA):Prop:=
 ∀ (pos:Pos) (pins:List (Addr × Obj)) (s:Shared) (σ:St) (H:Hp) (Q:List V->Hp->Prop),Inv X pins σ H s->t σ H Q->wpAny (model X.prog X.w) X.A (spliced (backTo pos (starEach es X.env))) (AP X pins σ Q) X.xe s
def PS (X:Cx) (st:Stmt) (t:TS):Prop:=
 ∀ (pins:List (Addr × Obj)) (s:Shared) (σ:St) (H:Hp) (D:Ends),Inv X pins σ H s->t D σ H->wpAny (model X.prog X.w) X.A (exec st X.env) (SP X pins D) X.xe s
def PSs (X:Cx) (st:List Stmt) (t:TS):Prop:=
 ∀ (pins:List (Addr × Obj)) (s:Shared) (σ:St) (H:Hp) (D:Ends),Inv X pins σ H s->t D σ H->wpAny (model X.prog X.w) X.A (execs st X.env) (SP X pins D) X.xe s
theorem thn {α:Type} {t:Sem α} {Q Q':α->Shared->Prop} {M:Model} {A:Around} {E:Value->Shared->Prop} {s:Shared} (h:wpAny M A t Q E s) (hQ:∀ a s,Q a s->Q' a s):wpAny M A t Q' E s:=wpAny_mono h hQ fun _ _ x=>x
end L2
namespace L2
open PySem PySem.Spec PyProof.Rows
section
variable {X:Cx}
def tVar (i:Nat):TE:=fun σ H Q=>∃ v,σ[i]?=some (some v)/\Q v H
def tC (v:V):TE:=fun _ H Q=>Q v H
theorem pe_var {i:Nat} {x:Str} {pos:Pos} (hN:X.N[i]?=some x) (hv:Vis X.env.scope x) (hd:(x == ("__debug__" : Str))=false:=by decide) (hcd:(x == ("__classdict__" : Str))=false:=by decide):PE X (.Name x pos) (tVar i):=by
 intro pins s σ H Q I h
 obtain ⟨v,e,h⟩:=h
 obtain ⟨m,hn,hl⟩:=I.loc
 obtain ⟨u,r,l⟩:=hl i x v hN e hv
 have fin:EP X pins σ Q u s:=⟨v,H,I,r,h⟩
 rcases l with ⟨hk,hm⟩ | ⟨hk,c,hc,hcell⟩
 ·exact wpAny_Name (wpAny_loadName_local I.ok.kind hk hn hm fin) hd
 ·rcases hk with hk | hk
  ·exact wpAny_Name (wpAny_loadName_cell I.ok.kind hk hc hcell fin) hd
  ·exact wpAny_Name (wpAny_loadName_free I.ok.kind hk hc hcell fin hcd) hd
theorem pe_int {i j pos}:PE X (.Constant (.int i) j pos) (tC (.int i)):=fun _ _ _ H _ I h=>wpAny_Constant_int ⟨.int i,H,I.tok _,⟨_,rfl⟩,h⟩
theorem pe_bl {b j pos}:PE X (.Constant (.bool b) j pos) (tC (.bl b)):=fun _ _ _ H _ I h=>Constant_bool ⟨.bl b,H,I,rfl,h⟩
theorem pe_non {j pos}:PE X (.Constant .none j pos) (tC .non):=fun _ _ _ H _ I h=>Constant_none ⟨.non,H,I,rfl,h⟩
theorem pe_str {x j pos}:PE X (.Constant (.str x) j pos) (tC (.str x)):=fun _ _ _ H _ I h=>Calls.Constant_str ⟨.str x,H,I.tok _,⟨_,rfl⟩,h⟩
def Gl (X:Cx) (x:Str):Prop:=X.env.kindOf x=some .globalImplicit
theorem ld_glob {E:Value->Shared->Prop} {pins:List (Addr × Obj)} {s:Shared} {σ:St} {H:Hp} {x:Str} {u:Value} {pos:Pos} {Q:Value->Shared->Prop} (I:Inv X pins σ H s) (hg:Gl X x) (hm:X.mg x=some u) (h:Q u s)
  (hd:(x == ("__debug__" : Str))=false:=by decide):wpAny (model X.prog X.w) X.A (eval (.Name x pos) X.env) Q E s:=
 Calls.Name_function_global I.ok.kind hg (Calls.loadGlobal_global (by rw [I.ok.glob];exact I.mod.glob.keeps I.bk) hm h) hd
theorem ld_blt {E:Value->Shared->Prop} {pins:List (Addr × Obj)} {s:Shared} {σ:St} {H:Hp} {x:Str} {u:Value} {pos:Pos} {Q:Value->Shared->Prop} (I:Inv X pins σ H s) (hg:Gl X x) (hm:X.mg x=none) (hv:bootBuiltins x=some u) (h:Q u s)
  (hn:x ≠ "__name__":=by decide) (hd:(x == ("__debug__" : Str))=false:=by decide):wpAny (model X.prog X.w) X.A (eval (.Name x pos) X.env) Q E s:=by
 obtain ⟨mb,h1,h2⟩:=I.mod.blt
 exact Calls.Name_function_global I.ok.kind hg (Calls.loadGlobal_builtin (by rw [I.ok.glob];exact I.mod.glob.keeps I.bk) hm (by rw [I.ok.blt];exact h1.keeps I.bk) ((h2 x hn).trans hv) h) hd
theorem pe_glob {x:Str} {v:V} {u:Value} {pos:Pos} (hg:Gl X x) (hm:X.mg x=some u) (r:RelV v u) (hd:(x == ("__debug__" : Str))=false:=by decide):PE X (.Name x pos) (tC v):=
 fun _ _ _ H _ I h=>ld_glob I hg hm ⟨v,H,I,r,h⟩ hd
theorem pe_bltn {x:Str} {v:V} {u:Value} {pos:Pos} (hg:Gl X x) (hm:X.mg x=none) (hv:bootBuiltins x=some u) (r:RelV v u) (hn:x ≠ "__name__":=by decide) (hd:(x == ("__debug__" : Str))=false:=by decide):PE X (.Name x pos) (tC v):=
 fun _ _ _ H _ I h=>ld_blt I hg hm hv ⟨v,H,I,r,h⟩ hn hd
variable {a b:Expr} {ta tb:TE} {pos:Pos}
def tB (t:TE):TT:=fun σ H Q=>t σ H fun x H1=>∃ c,x=.bl c/\Q c H1
theorem pt_val {e:Expr} {t:TE} (h:PE X e t) (he:∀ whole,isTrue e X.env whole=(do let v <- whole;standAt e.pos;holding [v] (truthy v)):=by intro _;rfl):PT X e (tB t):=by
 intro pins s σ H Q I hw
 refine isTrue_plain (thn (h pins s σ H _ I hw) fun v s1 hz1=>?_) (he _)
 obtain ⟨x,H1,I1,r1,q1⟩:=hz1
 obtain ⟨d,rfl,q⟩:=q1
 cases r1
 exact wpAny_truthy_bool ⟨H1,I1,q⟩
variable {tA tB':TT} {rest:List Expr}
def tAnd (t u:TT):TT:=fun σ H Q=>t σ H fun c H1=>if c=true then u σ H1 Q else Q false H1
def tOr (t u:TT):TT:=fun σ H Q=>t σ H fun c H1=>if c=true then Q true H1 else u σ H1 Q
def tNot (t:TT):TT:=fun σ H Q=>t σ H fun c H1=>Q (!c) H1
theorem pw_and1 (ha:PT X a tA):PW X (.BoolOp .And [a] pos) tA:=by
 intro wh pins s σ H Q I h
 refine isTrue_and (thn (ha pins s σ H Q I h) fun c s1 e=>?_)
 cases c with
 | true=>exact isTrue_and_nil e
 | false=>exact e
theorem pw_or1 (ha:PT X a tA):PW X (.BoolOp .Or [a] pos) tA:=by
 intro wh pins s σ H Q I h
 refine isTrue_or (thn (ha pins s σ H Q I h) fun c s1 e=>?_)
 cases c with
 | false=>exact isTrue_or_nil e
 | true=>exact e
theorem pw_and (ha:PT X a tA) (hb:PW X (.BoolOp .And (b :: rest) pos) tB'):PW X (.BoolOp .And (a :: b :: rest) pos) (tAnd tA tB'):=by
 intro wh pins s σ H Q I h
 refine isTrue_and (thn (ha pins s σ H _ I h) fun c s1 hz2=>?_)
 obtain ⟨H1,I1,q1⟩:=hz2
 cases c with
 | true=>exact hb wh pins s1 σ H1 Q I1 q1
 | false=>exact ⟨H1,I1,q1⟩
theorem pw_or (ha:PT X a tA) (hb:PW X (.BoolOp .Or (b :: rest) pos) tB'):PW X (.BoolOp .Or (a :: b :: rest) pos) (tOr tA tB'):=by
 intro wh pins s σ H Q I h
 refine isTrue_or (thn (ha pins s σ H _ I h) fun c s1 hz3=>?_)
 obtain ⟨H1,I1,q1⟩:=hz3
 cases c with
 | true=>exact ⟨H1,I1,q1⟩
 | false=>exact hb wh pins s1 σ H1 Q I1 q1
theorem pt_not (ha:PT X a tA):PT X (.UnaryOp .Not a pos) (tNot tA):=by
 intro pins s σ H Q I h
 exact isTrue_not (ha pins s σ H (fun c H1=>Q (!c) H1) I h)
def tAndV (ta tb:TE):TE:=fun σ H Q=>ta σ H fun x H1=>∃ c,x=.bl c/\if c=true then tb σ H1 Q else Q (.bl false) H1
def tNotV (ta:TE):TE:=fun σ H Q=>ta σ H fun x H1=>∃ c,x=.bl c/\Q (.bl (!c)) H1
theorem pe_one {op} {t:TE} (h:PE X a t):PE X (.BoolOp op [a] pos) t:=fun pins s σ H Q I hw=>BoolOp_one (h pins s σ H Q I hw)
theorem pe_and (ha:PE X a ta) (hb:PE X (.BoolOp .And (b :: rest) pos) tb):PE X (.BoolOp .And (a :: b :: rest) pos) (tAndV ta tb):=by
 intro pins s σ H Q I h
 refine BoolOp_and (thn (ha pins s σ H _ I h) fun v s1 hz4=>?_)
 obtain ⟨x,H1,I1,r1,q1⟩:=hz4
 obtain ⟨c,rfl,q1⟩:=q1
 cases r1
 refine wpAny_truthy_bool ?_
 cases c with
 | true=>exact hb pins s1 σ H1 Q I1 q1
 | false=>exact ⟨.bl false,H1,I1,rfl,q1⟩
theorem pe_not (ha:PE X a ta):PE X (.UnaryOp .Not a pos) (tNotV ta):=by
 intro pins s σ H Q I h
 refine UnaryOp_ (thn (ha pins s σ H _ I h) fun v s1 hz5=>?_)
 obtain ⟨x,H1,I1,r1,q1⟩:=hz5
 obtain ⟨c,rfl,q1⟩:=q1
 cases r1
 exact not_of (wpAny_truthy_bool ⟨.bl (!c),H1,I1,rfl,q1⟩)
def tIf (t:TT) (ta tb:TE):TE:=fun σ H Q=>t σ H fun c H1=>if c=true then ta σ H1 Q else tb σ H1 Q
theorem pe_ifExp {c:Expr} (hc:PT X c tA) (ha:PE X a ta) (hb:PE X b tb):PE X (.IfExp c a b pos) (tIf tA ta tb):=by
 intro pins s σ H Q I h
 refine wpAny_IfExp (thn (hc pins s σ H _ I h) fun d s1 hz6=>?_)
 obtain ⟨H1,I1,q1⟩:=hz6
 cases d with
 | true=>exact ha pins s1 σ H1 Q I1 q1
 | false=>exact hb pins s1 σ H1 Q I1 q1
end
end L2
namespace L2
open PySem PySem.Spec PyProof.Rows
def SqL (K:PySem.W.Frag) (H:Hp) (a:Addr) (xs:List V):Prop:=
 Rd H a (.lst xs) \/
  ∃ (o:Obj) (its:Array Value) (n:Nat),K.lookup a=some o/\o.cls=.type "list"/\o.dict=none/\o.data=.seq its n/\its.size <= sizeLine/\Vals xs its.toList
def SqT (K:PySem.W.Frag) (H:Hp) (a:Addr) (xs:List V):Prop:=
 Rd H a (.tup xs) \/
  ∃ (o:Obj) (its:Array Value) (n:Nat),K.lookup a=some o/\o.cls=.type "tuple"/\o.data=.seq its n/\its.size <= sizeLine/\Vals xs its.toList
def absV:Value->Option V
 | .none=>some .non
 | .bool b=>some (.bl b)
 | .int i _=>some (.int i)
 | .str x _=>some (.str x)
 | .bytes b _=>some (.byt b)
 | .float b _=>some (.flt b)
 | .ref a=>some (.ref a)
 | .type n=>some (.ty n)
 | _=>none
theorem RelV.abs {x:V} {u:Value} (r:RelV x u):absV u=some x:=by
 cases x with
 | non=>cases r;rfl
 | bl _=>cases r;rfl
 | int _=>obtain ⟨t,rfl⟩:=r;rfl
 | str _=>obtain ⟨t,rfl⟩:=r;rfl
 | byt _=>obtain ⟨t,rfl⟩:=r;rfl
 | flt _=>obtain ⟨t,rfl⟩:=r;rfl
 | ref _=>cases r;rfl
 | ty _=>cases r;rfl
theorem RelV.inj {x y:V} {u:Value} (r:RelV x u) (q:RelV y u):x=y:=Option.some.inj (r.abs.symm.trans q.abs)
theorem Vals.inj:∀ {xs ys:List V} {us:List Value},Vals xs us->Vals ys us->xs=ys
 | _,_,_,.nil,.nil=>rfl
 | _,_,_,.cons r t,.cons r' t'=>by rw [r.inj r',Vals.inj t t']
section
variable {X:Cx} {pins:List (Addr × Obj)} {σ:St} {H:Hp} {s:Shared} {a:Addr} {xs ys:List V}
theorem SqL.of {K:PySem.W.Frag} (h:H a=some (.lst xs)):SqL K H a xs:=.inl (.inl h)
theorem SqT.of {K:PySem.W.Frag} (h:H a=some (.tup xs)):SqT K H a xs:=.inl (.inl h)
theorem Inv.list (I:Inv X pins σ H s) (h:SqL X.K H a xs):∃ its:List Value,Vals xs its/\PlainL s.heap a its.toArray/\xs.length <= sizeLine:=by
 rcases h with h | ⟨o,its,n,hk,hc,hd,hs,hz,r⟩
 ·obtain ⟨z,its,n,r,e⟩:=h.ok I.hok
  exact ⟨its,r,⟨_,n,e,rfl,rfl,rfl⟩,z⟩
 ·refine ⟨its.toList,r,⟨o,n,I.kIn a o hk,hc,hd,by simpa using hs⟩,?_⟩
  have e:=r.length
  simp only [Array.length_toList] at e
  omega
theorem Inv.tuple (I:Inv X pins σ H s) (h:SqT X.K H a xs):∃ its:List Value,Vals xs its/\IsTup s.heap a its.toArray/\xs.length <= sizeLine:=by
 rcases h with h | ⟨o,its,n,hk,hc,hs,hz,r⟩
 ·obtain ⟨z,its,r,p⟩:=h.ok I.hok
  exact ⟨its,r,p,z⟩
 ·refine ⟨its.toList,r,⟨o,I.kIn a o hk,hc,n,by simpa using hs⟩,?_⟩
  have e:=r.length
  simp only [Array.length_toList] at e
  omega
theorem Inv.list_inj (I:Inv X pins σ H s) (h:SqL X.K H a xs) (h':SqL X.K H a ys):xs=ys:=by
 obtain ⟨its,r,⟨o,n,e,_,_,d⟩,_⟩:=I.list h
 obtain ⟨its',r',⟨o',n',e',_,_,d'⟩,_⟩:=I.list h'
 rw [e] at e';cases e'
 rw [d] at d'
 injection d' with d1 _
 have:its=its':=by simpa using congrArg Array.toList d1
 subst this
 exact r.inj r'
theorem Inv.tuple_inj (I:Inv X pins σ H s) (h:SqT X.K H a xs) (h':SqT X.K H a ys):xs=ys:=by
 obtain ⟨its,r,⟨o,e,_,n,d⟩,_⟩:=I.tuple h
 obtain ⟨its',r',⟨o',e',_,n',d'⟩,_⟩:=I.tuple h'
 rw [e] at e';cases e'
 rw [d] at d'
 injection d' with d1 _
 have:its=its':=by simpa using congrArg Array.toList d1
 subst this
 exact r.inj r'
end
abbrev Cx.wish (X:Cx) (E:Value->Shared->Prop):Cx:={ X with xe:=E }
abbrev Cx.nox (X:Cx):Cx:=X.wish fun _ _=>False
theorem Cx.Ok.wish {X:Cx} (ok:X.Ok) (E:Value->Shared->Prop):(X.wish E).Ok:=
 ⟨ok.mod,ok.kind,ok.glob,ok.blt,ok.above,ok.inj,ok.has,ok.cab,ok.hd,ok.frames,ok.stk,ok.exf,ok.bs,ok.bsz,ok.noex,ok.exfs,ok.funs,ok.frf⟩
theorem Cx.Ok.unwish {X:Cx} {E:Value->Shared->Prop} (ok:(X.wish E).Ok):X.Ok:=
 ⟨ok.mod,ok.kind,ok.glob,ok.blt,ok.above,ok.inj,ok.has,ok.cab,ok.hd,ok.frames,ok.stk,ok.exf,ok.bs,ok.bsz,ok.noex,ok.exfs,ok.funs,ok.frf⟩
section
variable {X:Cx} {pins:List (Addr × Obj)} {σ:St} {H:Hp} {s:Shared} {E:Value->Shared->Prop}
theorem Inv.wish (I:Inv X pins σ H s) (E:Value->Shared->Prop):Inv (X.wish E) pins σ H s:=⟨I.ok.wish E,I.os,I.bare,I.base,I.loc,I.cell,I.free,I.freeC,I.pin,I.hok,I.len⟩
theorem Inv.unwish (I:Inv (X.wish E) pins σ H s):Inv X pins σ H s:=⟨I.ok.unwish,I.os,I.bare,I.base,I.loc,I.cell,I.free,I.freeC,I.pin,I.hok,I.len⟩
theorem SP.unwish {D:Ends} {f:Flow} {s':Shared} (h:SP (X.wish E) pins D f s'):SP X pins D f s':=by
 cases f with
 | next=>obtain ⟨σ',H',I,q⟩:=h;exact ⟨σ',H',I.unwish,q⟩
 | brk=>obtain ⟨σ',H',I,q⟩:=h;exact ⟨σ',H',I.unwish,q⟩
 | cont=>obtain ⟨σ',H',I,q⟩:=h;exact ⟨σ',H',I.unwish,q⟩
 | ret u=>obtain ⟨v,σ',H',I,r,q⟩:=h;exact ⟨v,σ',H',I.unwish,r,q⟩
theorem PSs.nox {st:List Stmt} {t:TS} (h:PSs X.nox st t):PSs X st t:=fun pins s σ H D I hw=>
 wpAny_mono (h pins s σ H D (I.wish _) hw) (fun _ _ q=>q.unwish) fun _ _ z=>False.elim z
end
section
variable {X:Cx} {st:Stmt} {rest:List Stmt} {t u:TS} {e:Expr} {te:TE} {pos:Pos}
def tNext:TS:=fun D σ H=>D.nx σ H
def tSeq (t u:TS):TS:=fun D σ H=>t { D with nx:=u D } σ H
theorem pss_nil:PSs X [] tNext:=fun _ _ σ H _ I h=>wpAny_execs_nil ⟨σ,H,I,h⟩
theorem pss_cons (h1:PS X st t) (h2:PSs X rest u):PSs X (st :: rest) (tSeq t u):=by
 intro pins s σ H D I h
 refine wpAny_execs_cons (thn (h1 pins s σ H { D with nx:=u D } I h) fun f s1 q=>?_)
 cases f with
 | next=>
  obtain ⟨σ',H',I',q⟩:=q
  exact h2 pins s1 σ' H' D I' q
 | ret v=>exact q
 | brk=>exact q
 | cont=>exact q
theorem pss_one (h1:PS X st t):PSs X [st] t:=by
 intro pins s σ H D I h
 refine wpAny_execs_cons (thn (h1 pins s σ H D I h) fun f s1 q=>?_)
 cases f with
 | next=>exact wpAny_execs_nil q
 | ret v=>exact q
 | brk=>exact q
 | cont=>exact q
theorem Inv.quiet {pins:List (Addr × Obj)} {σ:St} {H:Hp} {s:Shared} (I:Inv X pins σ H s):interactive X.env=false:=by simp [interactive,I.ok.kind]
def tDrop (te:TE):TS:=fun D σ H=>te σ H fun _ H1=>D.nx σ H1
theorem ps_expr (he:PE X e te) (hs:swapsWith e none pos.line X.env=pure false:=by rfl):PS X (.Expr e pos) (tDrop te):=by
 intro pins s σ H D I h
 exact wpAny_Expr_any (thn (he pins s σ H _ I h) fun v s1 ⟨x,H1,I1,r1,q1⟩=>⟨σ,H1,I1,q1⟩) I.quiet hs
def tRet (te:TE):TS:=fun D σ H=>te σ H D.rt
theorem ps_ret (he:PE X e te):PS X (.Return (some e) pos) (tRet te):=by
 intro pins s σ H D I h
 exact wpAny_Return_some (thn (he pins s σ H _ I h) fun v s1 ⟨x,H1,I1,r1,q1⟩=>⟨x,σ,H1,I1,r1,q1⟩)
def tIfS (c:TT) (t u:TS):TS:=fun D σ H=>c σ H fun b H1=>if b=true then t D σ H1 else u D σ H1
theorem ps_if {c:Expr} {a b:List Stmt} {tc:TT} (hc:PT X c tc) (ha:PSs X a t) (hb:PSs X b u):PS X (.If c a b pos) (tIfS tc t u):=by
 intro pins s σ H D I h
 refine wpAny_If (thn (hc pins s σ H _ I h) fun d s1 hz7=>?_)
 obtain ⟨H1,I1,q1⟩:=hz7
 cases d with
 | true=>exact ha pins s1 σ H1 D I1 q1
 | false=>exact hb pins s1 σ H1 D I1 q1
def tNever:TS:=fun _ _ _=>False
theorem ps_never:PS X st tNever:=fun _ _ _ _ _ _ h=>h.elim
end
abbrev TG:=V->St->Hp->(St->Hp->Prop)->Prop
abbrev TGs:=List V->St->Hp->(St->Hp->Prop)->Prop
def PG (X:Cx) (target:Expr) (t:TG):Prop:=
 ∀ (pins:List (Addr × Obj)) (s:Shared) (σ:St) (H:Hp) (v:V) (u:Value) (Q:St->Hp->Prop),Inv X pins σ H s->RelV v u->t v σ H Q ->
  wpAny (model X.prog X.w) X.A (assign target X.env u) (fun _ s'=>∃ σ' H',Inv X pins σ' H' s'/\Q σ' H') X.xe s
def PGs (X:Cx) (ts:List Expr) (t:TGs):Prop:=
 ∀ (pins:List (Addr × Obj)) (s:Shared) (σ:St) (H:Hp) (vs:List V) (us:List Value) (Q:St->Hp->Prop),Inv X pins σ H s->Vals vs us->t vs σ H Q ->
  wpAny (model X.prog X.w) X.A (assignInOrder ((assignEach ts X.env).map (·.2)) us) (fun _ s'=>∃ σ' H',Inv X pins σ' H' s'/\Q σ' H') X.xe s
abbrev TSet:=V->V->V->Hp->(Hp->Prop)->Prop
def PSet (X:Cx) (t:TSet):Prop:=
 ∀ (pins:List (Addr × Obj)) (s:Shared) (σ:St) (H:Hp) (o i v:V) (ov iv u:Value) (Q:Hp->Prop),Inv X pins σ H s->RelV o ov->RelV i iv->RelV v u->t o i v H Q ->
  wpAny (model X.prog X.w) X.A (setItem ov iv u) (fun _ s'=>∃ H',Inv X pins σ H' s'/\Q H') X.xe s
section
variable {X:Cx} {pos:Pos}
def gName (i:Nat):TG:=fun v σ H Q=>Q (σ.set i (some v)) H
theorem pg_name {i:Nat} {x:Str} (hN:X.N.Nodup) (hi:X.N[i]?=some x) (hx:Loc X.env.scope x) (hf:X.fn x=true \/ X.env.scope.names.lookup x=some .local:=by first | exact .inl rfl | exact .inr rfl | assumption):PG X (.Name x pos) (gName i):=by
 intro pins s σ H v u Q I r h
 exact wpAny_assign_Name (store_ok I hN hi hx r (fun s' I'=>⟨_,H,I',h⟩) hf)
def gNil:TGs:=fun vs σ H Q=>vs=[]/\Q σ H
def gCons (t:TG) (u:TGs):TGs:=fun vs σ H Q=>∃ v r,vs=v :: r/\t v σ H fun σ' H'=>u r σ' H' Q
theorem pgs_nil:PGs X [] gNil:=by
 intro pins s σ H vs us Q I r h
 obtain ⟨e,h⟩:=h
 subst e
 cases r
 exact assignInOrder_nil ⟨σ,H,I,h⟩
theorem pgs_cons {e:Expr} {es:List Expr} {t:TG} {u:TGs} (h1:PG X e t) (h2:PGs X es u)
  (hs:(assignEach (e :: es) X.env).map (·.2)=assign e X.env :: (assignEach es X.env).map (·.2):=by rfl):PGs X (e :: es) (gCons t u):=by
 intro pins s σ H vs us Q I r h
 obtain ⟨v,vr,e1,h⟩:=h
 subst e1
 cases r with
 | cons r rr=>
  rw [hs]
  refine assignInOrder_cons (thn (h1 pins s σ H _ _ _ I r h) fun _ s1 hz8=>?_)
  obtain ⟨σ1,H1,I1,q1⟩:=hz8
  exact h2 pins s1 σ1 H1 _ _ Q I1 rr q1
def gTup (K:PySem.W.Frag) (n:Nat) (t:TGs):TG:=fun v σ H Q=>∃ a xs,v=.ref a/\SqT K H a xs/\xs.length=n/\t xs σ H Q
theorem pg_tup {es:List Expr} {k:Nat} {t:TGs} {n:Nat} (hc:X.calm=true) (h:PGs X es t)
  (hn:(assignEach es X.env).length=n:=by rfl) (hst:(assignEach es X.env).findIdx? (·.1)=none:=by rfl):PG X (.Tuple es k pos) (gTup X.K n t):=by
 intro pins s σ H v u Q I r hw
 obtain ⟨a,xs,e1,hq,hl,hw⟩:=hw
 subst e1
 cases r
 obtain ⟨its,rv,ht,hz⟩:=I.tuple hq
 refine assign_Tuple_tuple (I.ok.hd hc) ht (by simp [hn,<- hl,rv.length]) hst fun h' hx=>?_
 have I1:Inv X pins σ H { s with heap:=h' }:=I.kept (t':=s.toks) fun b o e=>hx b o (Nat.ne_of_lt (Heap.lt_size e)) e
 exact h pins _ σ H xs _ Q I1 (by simpa using rv) hw
def gSub (to ti:TE) (t:TSet):TG:=fun v σ H Q=>to σ H fun o H1=>ti σ H1 fun i H2=>t o i v H2 fun H3=>Q σ H3
theorem pg_sub {o i:Expr} {to ti:TE} {t:TSet} (ho:PE X o to) (hi:PE X i ti) (hs:PSet X t)
  (ha:∀ v,assign (.Subscript o i pos) X.env v=(do
   let ov <- holding [v] (eval o X.env)
   let iv <- holding [v,ov] (eval i X.env)
   standAt pos
   holding [v,ov,iv] (setItem ov iv v)
   release [v,ov,iv] []):=by intro _;rfl):PG X (.Subscript o i pos) (gSub to ti t):=by
 intro pins s σ H v u Q I r h
 rw [ha]
 refine wpAny_bind (wpAny_holding (thn (ho pins s σ H _ I h) fun ov s1 hz9=>?_))
 obtain ⟨x,H1,I1,r1,q1⟩:=hz9
 refine wpAny_bind (wpAny_holding (thn (hi pins s1 σ H1 _ I1 q1) fun iv s2 hz10=>?_))
 obtain ⟨y,H2,I2,r2,q2⟩:=hz10
 refine wpAny_bind (wpAny_standAt (wpAny_bind (wpAny_holding (thn (hs pins s2 σ H2 x y v ov iv u _ I2 r1 r2 r q2) fun _ s3 hz11=>?_))))
 obtain ⟨H3,I3,q3⟩:=hz11
 exact wpAny_release ⟨σ,H3,I3,q3⟩
def tAsg (te:TE) (g:TG):TS:=fun D σ H=>te σ H fun x H1=>g x σ H1 D.nx
theorem ps_asg {tg e:Expr} {te:TE} {g:TG} (he:PE X e te) (hg:PG X tg g) (hs:swapsWithSole [tg] e pos.line X.env=pure false:=by rfl) (hw:swappedStores [tg] e X.env=pure none:=by rfl)
  (h1:(assignEach [tg] X.env).map (·.2)=[assign tg X.env]:=by rfl):PS X (.Assign [tg] e pos) (tAsg te g):=by
 intro pins s σ H D I h
 refine wpAny_Assign_stores (thn (he pins s σ H _ I h) fun v s1 hz12=>?_) hs hw
 obtain ⟨x,H1,I1,r1,q1⟩:=hz12
 rw [h1]
 exact thn (hg pins s1 σ H1 x v _ I1 r1 q1) fun _ s2 q=>q
theorem ps_set {i:Nat} {x:Str} {e:Expr} {te:TE} {pos':Pos} (hN:X.N.Nodup) (hi:X.N[i]?=some x) (hx:Loc X.env.scope x) (he:PE X e te) (hs:swapsWith e (some (.Name x pos')) pos.line X.env=pure false:=by rfl) (hf:X.fn x=true \/ X.env.scope.names.lookup x=some .local:=by first | exact .inl rfl | exact .inr rfl | assumption) :
  PS X (.Assign [.Name x pos'] e pos) (tAsg te (gName i)):=by
 intro pins s σ H D I h
 refine wpAny_Assign_Name (thn (he pins s σ H _ I h) fun v s1 hz13=>?_) hs
 obtain ⟨y,H1,I1,r1,q1⟩:=hz13
 exact store_ok I1 hN hi hx r1 (fun s2 I2=>⟨_,H1,I2,q1⟩) hf
end
section
variable {X:Cx} {pos:Pos}
end
structure It where
 go:Nat->Hp->Prop
 yld:Nat->Hp->V->Hp->Prop
 stop:Nat->Hp->Prop
def FpOk (X:Cx) (pins:List (Addr × Obj)) (H:Hp) (b:Addr):Prop:=
 H b=none/\b ≠ X.env.locals/\b ∉ X.fs/\(b ∈ X.ex \/ X.s₀.heap.objs.size <= b)/\(∀ x c,X.env.cells.lookup x=some c->c ≠ b)/\∀ p ∈ X.pn ++ pins,p.1 ≠ b
theorem Inv.fpOk {X:Cx} {pins:List (Addr × Obj)} {σ:St} {H H':Hp} {s:Shared} {b:Addr} (I:Inv X pins σ H s) (hb:s.heap.objs.size <= b) (hn:H' b=none):FpOk X pins H' b:=by
 refine ⟨hn,Nat.ne_of_gt (Nat.lt_of_lt_of_le I.lt hb),I.nofs hb,.inr (Nat.le_trans I.sz hb),fun x c e z=>?_,fun p hp z=>?_⟩
 ·obtain ⟨v,q⟩:=I.cell x c e
  exact absurd (Nat.lt_of_lt_of_le q.lt (by rw [z];exact hb)) (Nat.lt_irrefl _)
 ·exact absurd (Nat.lt_of_lt_of_le (Heap.lt_size (I.pin p hp).1) (by rw [z];exact hb)) (Nat.lt_irrefl _)
structure Turn (P:Program) (w:World) (K:PySem.W.Frag) (tg:Expr) (J:It) (fp:List Addr) (it:Addr) (tn:Nat->Heap->Prop):Prop where
 mem:it ∈ fp
 obj:∀ i h,tn i h->∀ b ∈ fp,∃ o,h.get? b=some o/\∀ v,o.data ≠ .cell v
 keep:∀ i h h',tn i h->(∀ b ∈ fp,∀ o,h.get? b=some o->h'.get? b=some o)->tn i h'
 item:∀ (X:Cx),X.prog=P->X.w=w->X.K=K->X.calm=true->∀ (i:Nat) (pins:List (Addr × Obj)) (s:Shared) (σ:St) (H:Hp) (E:Value->Shared->Prop),Inv X pins σ H s->(∀ b ∈ fp,FpOk X pins H b)->tn i s.heap->J.go i H ->
  wpAny (model P w) X.A (pyNext (.ref it)) (fun r s1=>∃ u,r=some u /\
   wpAny (model P w) X.A (letOwnedTupleGo tg (.ref it) u) (fun _ s2=>∃ x H',Inv X pins σ H' s2/\RelV x u/\J.yld i H x H'/\tn (i + 1) s2.heap/\∀ b ∈ fp,H' b=none) E s1) E s
 done:∀ (X:Cx),X.prog=P->X.w=w->X.K=K->X.calm=true->∀ (i:Nat) (pins:List (Addr × Obj)) (s:Shared) (σ:St) (H:Hp) (E:Value->Shared->Prop),Inv X pins σ H s->(∀ b ∈ fp,FpOk X pins H b)->tn i s.heap->J.stop i H ->
  wpAny (model P w) X.A (pyNext (.ref it)) (fun r s1=>r=none/\Inv X pins σ H s1) E s
 self:∀ (A:Around) (i:Nat) (s:Shared) (Q:Value->Shared->Prop) (E:Value->Shared->Prop),tn i s.heap->Q (.ref it) s->wpAny (model P w) A (pyIter (.ref it)) Q E s
abbrev TI:=St->Hp->(It->Hp->Prop)->Prop
def PIE (X:Cx) (pins:List (Addr × Obj)) (σ:St) (tg:Expr) (R:It->Hp->Prop) (itv:Value) (s2:Shared):Prop:=
 ∃ (it:Addr) (fp:List Addr) (tn:Nat->Heap->Prop) (J:It) (H':Hp),itv=.ref it/\Inv X pins σ H' s2/\Turn X.prog X.w X.K tg J fp it tn/\tn 0 s2.heap/\(∀ b ∈ fp,FpOk X pins H' b)/\R J H'
def PI (X:Cx) (tg iter:Expr) (wi:TI):Prop:=
 ∀ (pins:List (Addr × Obj)) (s:Shared) (σ:St) (H:Hp) (R:It->Hp->Prop),Inv X pins σ H s->wi σ H R ->
  wpAny (model X.prog X.w) X.A (eval iter X.env) (fun v s1=>wpAny (model X.prog X.w) X.A (pyIter v) (PIE X pins σ tg R) X.xe s1) X.xe s
theorem go_of {M:Model} {A:Around} {E:Value->Shared->Prop} {s:Shared} {tg:Expr} {it:Addr} {u:Value} {o:Obj} {n:String} {vs:Array Value} {Q:Unit->Shared->Prop} (ho:s.heap.get? it=some o) (hc:o.cls=.type n) (hd:o.data=.fields vs)
    (hn:["enumerate","zip","dict_itemiterator","dict_reverseitemiterator","odict_iterator","itertools.zip_longest","itertools.pairwise"].contains n=false) (hQ:Q () s):wpAny M A (letOwnedTupleGo tg (.ref it) u) Q E s:=by
  unfold letOwnedTupleGo
  cases tg <;> first
    | exact wpAny_pure hQ
    | (cases u <;> first
        | exact wpAny_pure hQ
        | (refine wpAny_bind (wpAny_load ho ?_)
           rw [hc,hd]
           show wpAny M A (if (["enumerate","zip","dict_itemiterator","dict_reverseitemiterator","odict_iterator","itertools.zip_longest","itertools.pairwise"].contains n && vs[0]? == some (rawInt _))=true then _ else _) Q E s
           rw [if_neg (by intro h;rw [hn,Bool.false_and] at h;cases h)]
           exact wpAny_pure hQ))
def Itl (K:PySem.W.Frag) (a:Addr):It:=
 ⟨fun i H=>∃ xs x,SqL K H a xs/\xs[i]?=some x,fun i H x H'=>H'=H/\∀ xs,SqL K H a xs->xs[i]?=some x,fun i H=>∃ xs,SqL K H a xs/\xs.length <= i⟩
def Itr (lo:Int) (n:Nat):It:=⟨fun i _=>i < n,fun i H x H'=>H'=H/\x=.int (lo + i),fun i _=>n <= i⟩
theorem turn_list {P:Program} {w:World} {K:PySem.W.Frag} {tg:Expr} (a it:Addr):Turn P w K tg (Itl K a) [it] it (fun i h=>h.IsListIter it a i) where
 mem:=by simp
 obj:=fun i h st b hb=>by
  have e:b=it:=by simpa using hb
  subst e
  obtain ⟨o,e,c,d⟩:=st
  exact ⟨o,e,fun v z=>by rw [d] at z;cases z⟩
 keep:=fun i h h' st k=>st.at fun o e=>k it (by simp) o e
 item:=by
  intro X hP hw hK hc i pins s σ H E I hf st hg
  subst hP hw hK
  obtain ⟨xs,x,hq,hx⟩:=hg
  obtain ⟨its,rv,p,hz⟩:=I.list hq
  obtain ⟨u,hu,ru⟩:=rv.get hx
  obtain ⟨f0,f1,f2,f3,f4,f5⟩:=hf it (by simp)
  refine wpAny_pyNext_list_item st p.isList (x:=u) (by simpa using hu) fun h' st' sb=>?_
  have I1:Inv X pins σ H { s with heap:=h' }:=I.turned (t':=s.toks) (fun b o hb e=>(sb.2 b hb).trans e) f0 f1 f3 f4 f5
  obtain ⟨o,e,c,d⟩:=id st'
  exact ⟨u,rfl,go_of (s:={ s with heap:=h' }) e c d (by decide) ⟨x,H,I1,ru,⟨rfl,fun ys hy=>by rw [I.list_inj hy hq];exact hx⟩,st',fun b hb=>(hf b hb).1⟩⟩
 done:=by
  intro X hP hw hK hc i pins s σ H E I hf st hg
  subst hP hw hK
  obtain ⟨xs,hq,hx⟩:=hg
  obtain ⟨its,rv,p,hz⟩:=I.list hq
  obtain ⟨f0,f1,f2,f3,f4,f5⟩:=hf it (by simp)
  have hl:=rv.length
  exact wpAny_pyNext_list_end (I.ok.hd hc) st p.isList (by simp;omega) fun h' eb=>⟨rfl,I.turned (t':=s.toks) (fun b o hb e=>eb b o hb e) f0 f1 f3 f4 f5⟩
 self:=fun _ _ _ _ _ st h=>wpAny_pyIter_listiter st h
theorem turn_range {P:Program} {w:World} {K:PySem.W.Frag} {tg:Expr} (it:Addr) (lo:Int) (n:Nat):Turn P w K tg (Itr lo n) [it] it (fun i h=>IsRangeIter h it (lo + (i:Nat) * 1) ((n:Int) - (i:Nat)) 1) where
 mem:=by simp
 obj:=fun i h st b hb=>by
  have e:b=it:=by simpa using hb
  subst e
  exact ⟨_,st,fun v z=>by
   have z':Data.fields _=Data.cell v:=z
   cases z'⟩
 keep:=fun i h h' st k=>k it (by simp) _ st
 item:=by
  intro X hP hw hK hc i pins s σ H E I hf st hg
  subst hP hw hK
  obtain ⟨f0,f1,f2,f3,f4,f5⟩:=hf it (by simp)
  have W:=Walks.range (prog:=X.prog) (w:=X.w) (I.ok.hd hc) it lo 1 n
  refine W.item i s _ _ hg st fun v h' tk hv st' kk=>?_
  obtain ⟨t,rfl⟩:=hv
  have I1:Inv X pins σ H { s with heap:=h',toks:=tk }:=I.turned (fun b o hb e=>kk b o (by simpa using hb) e) f0 f1 f3 f4 f5
  refine ⟨_,rfl,go_of (s:={ s with heap:=h',toks:=tk }) (n:="range_iterator") st' rfl rfl (by decide) ⟨.int (lo + i),H,I1,⟨t,?_⟩,⟨rfl,rfl⟩,st',fun b hb=>(hf b hb).1⟩⟩
  rw [Int.mul_one]
 done:=by
  intro X hP hw hK hc i pins s σ H E I hf st hg
  subst hP hw hK
  obtain ⟨f0,f1,f2,f3,f4,f5⟩:=hf it (by simp)
  exact wpAny_pyNext_range_end (I.ok.hd hc) st (by have:n <= i:=hg;omega) fun h' eb=>⟨rfl,I.turned (t':=s.toks) (fun b o hb e=>eb b o hb e) f0 f1 f3 f4 f5⟩
 self:=fun _ _ _ _ _ st h=>wpAny_pyIter_rangeiter st h
end L2
namespace L2
open PySem PySem.Spec PyProof.Rows
section
variable {X:Cx} {tg:Expr}
def iList (K:PySem.W.Frag) (tl:TE):TI:=fun σ H R=>tl σ H fun x H1=>∃ a,x=.ref a/\(∃ xs,SqL K H1 a xs)/\R (Itl K a) H1
theorem pi_list {l:Expr} {tl:TE} (hl:PE X l tl):PI X tg l (iList X.K tl):=by
 intro pins s σ H R I h
 refine thn (hl pins s σ H _ I h) fun v s1 hz14=>?_
 obtain ⟨x,H1,I1,r1,q1⟩:=hz14
 obtain ⟨a,e,⟨xs,hq⟩,q⟩:=q1
 subst e
 cases r1
 obtain ⟨its,rv,p,hz⟩:=I1.list hq
 refine wpAny_pyIter_list p.isList ?_
 refine ⟨s1.heap.objs.size,[s1.heap.objs.size],_,_,H1,rfl,I1.kept (t':=s1.toks) fun b o e=>Heap.get?_push_of_some _ e,turn_list a _,⟨_,Heap.get?_push_size _ rfl,rfl,rfl⟩,fun b hb=>?_,q⟩
 have e:b=s1.heap.objs.size:=by simpa using hb
 subst e
 exact I1.fpOk (Nat.le_refl _) (I1.hok.fresh (Nat.le_refl _))
theorem range_it {pins:List (Addr × Obj)} {σ:St} {H:Hp} {s:Shared} {R:It->Hp->Prop} {E:Value->Shared->Prop} {lo hi:Int} {t u v:Tok} {tk:Nat} (I:Inv X pins σ H s) (h1:-(2 ^ 62) <= lo) (h2:lo < 2 ^ 62) (h3:-(2 ^ 62) <= hi) (h4:hi < 2 ^ 62)
  (q:R (Itr lo (hi - lo).toNat) H):wpAny (model X.prog X.w) X.A (pyIter (.ref s.heap.objs.size)) (PIE X pins σ tg R) E { s with heap:=s.heap.push { cls:=.type "range",data:=.fields #[.int lo t,.int hi u,.int 1 v] },toks:=tk }:=by
 refine wpAny_pyIter_range (IsRange.new ..) (small_one h1 h2 h3 h4) ?_
 have I1:Inv X pins σ H { s with heap:=s.heap.push { cls:=.type "range",data:=.fields #[.int lo t,.int hi u,.int 1 v] },toks:=tk }:=I.kept fun b o e=>Heap.get?_push_of_some _ e
 refine ⟨(s.heap.push { cls:=.type "range",data:=.fields #[.int lo t,.int hi u,.int 1 v] }).objs.size,[(s.heap.push { cls:=.type "range",data:=.fields #[.int lo t,.int hi u,.int 1 v] }).objs.size],_,_,H,rfl,
  I1.kept (t':=tk) fun b o e=>Heap.get?_push_of_some _ e,turn_range _ lo (hi - lo).toNat,?_,fun b hb=>?_,q⟩
 ·have e1:lo + ((0:Nat):Int) * 1=lo:=by simp
  have e2:(((hi - lo).toNat:Nat):Int) - ((0:Nat):Int)=Builtin.Range.rangeSize lo hi 1:=by rw [rangeSize_one];split <;> omega
  show IsRangeIter _ _ (lo + ((0:Nat):Int) * 1) ((((hi - lo).toNat:Nat):Int) - ((0:Nat):Int)) 1
  rw [e1,e2]
  exact Heap.get?_push_size _ rfl
 ·have e:b=(s.heap.push { cls:=.type "range",data:=.fields #[.int lo t,.int hi u,.int 1 v] }).objs.size:=by simpa using hb
  subst e
  exact I1.fpOk (Nat.le_refl _) (I1.hok.fresh (Nat.le_refl _))
def iRng1 (ta:TA):TI:=fun σ H R=>ta σ H fun vs H1=>∃ j:Int,vs=[.int j]/\-(2 ^ 62) <= j/\j < 2 ^ 62/\R (Itr 0 j.toNat) H1
theorem pi_range1 {a:Expr} {ta:TA} {p pos:Pos} (hg:Gl X "range") (hm:X.mg "range"=none) (ha:PA X [a] ta) (hs:starEach [a] X.env=[(false,eval a X.env)]:=by rfl):PI X tg (.Call (.Name "range" p) [a] [] pos) (iRng1 ta):=by
 intro pins s σ H R I h
 refine Call_ (ld_blt I hg hm boot_range (PyProof.Rows.callWith_type1 (thn (ha pos pins s σ H _ I h) fun us s1 hz15=>?_) hs rfl))
 obtain ⟨vs,H1,I1,r1,q1⟩:=hz15
 obtain ⟨j,e,q1,q2,q⟩:=q1
 subst e
 cases r1 with
 | cons r rr=>
  cases rr
  obtain ⟨t,rfl⟩:=r
  exact call_range_1 (range_it I1 (by omega) (by omega) q1 q2 (by simpa using q))
def tFor (wi:TI) (g:TG) (tb:TS):TS:=fun D σ H=>wi σ H fun J H1=>∃ W:Nat->Nat->St->Hp->Prop,(∃ m,W 0 m σ H1)/\∀ i m σ H,W i m σ H ->
 (J.stop i H/\D.nx σ H) \/ (J.go i H/\∃ N:St->Hp->Prop,(∀ σ' H',N σ' H'->∃ m',m' < m/\W (i + 1) m' σ' H')/\∀ x H',J.yld i H x H'->g x σ H' fun σ2 H2=>tb { D with nx:=N,ct:=N,bk:=D.nx } σ2 H2)
def pinsAt (fp:List Addr) (h:Heap):List (Addr × Obj):=fp.filterMap fun b=>(h.get? b).map fun o=>(b,o)
theorem mem_pinsAt {fp:List Addr} {h:Heap} {b:Addr} {o:Obj} (hb:b ∈ fp) (e:h.get? b=some o):(b,o) ∈ pinsAt fp h:=List.mem_filterMap.mpr ⟨b,hb,by rw [e];rfl⟩
theorem of_pinsAt {fp:List Addr} {h:Heap} {p:Addr × Obj} (hp:p ∈ pinsAt fp h):p.1 ∈ fp/\h.get? p.1=some p.2:=by
 obtain ⟨b,hb,e⟩:=List.mem_filterMap.mp hp
 cases q:h.get? b with
 | none=>rw [q] at e;cases e
 | some o=>
  rw [q] at e
  have e':(b,o)=p:=Option.some.inj e
  subst e'
  exact ⟨hb,q⟩
theorem Inv.pinned {pins:List (Addr × Obj)} {σ:St} {H:Hp} {s:Shared} {fp:List Addr} (I:Inv X pins σ H s) (hf:∀ b ∈ fp,FpOk X pins H b) (ho:∀ b ∈ fp,∃ o,s.heap.get? b=some o/\∀ v,o.data ≠ .cell v):Inv X (pins ++ pinsAt fp s.heap) σ H s:=
 I.pins_of fun p hp=>(List.mem_append.mp hp).elim (fun z=>I.pin p (List.mem_append_right _ z)) fun z=>by
  obtain ⟨hb,e⟩:=of_pinsAt z
  obtain ⟨f0,f1,f2,_⟩:=hf p.1 hb
  obtain ⟨o,e',d⟩:=ho p.1 hb
  rw [e] at e';cases e'
  exact ⟨e,f0,f1,f2,d⟩
theorem Inv.unpinned {pins pl:List (Addr × Obj)} {σ:St} {H:Hp} {s:Shared} (I:Inv X (pins ++ pl) σ H s):Inv X pins σ H s:=I.pins_of fun p hp=>I.pin p (List.mem_append_right _ (List.mem_append_left _ hp))
theorem ps_for {iter:Expr} {body:List Stmt} {wi:TI} {g:TG} {tb:TS} {pos:Pos} (hp:PassesOwn (model X.prog X.w) X.A X.env X.xe) (hc:X.calm=true) (hi:PI X tg iter wi) (hg:PG X tg g) (hb:PSs X body tb)
  (hs:∀ x,foldedSetIterable iter X.env x=pure x:=by intro _;rfl):PS X (.For tg iter body [] pos) (tFor wi g tb):=by
 intro pins s σ H D I h
 refine wpAny_For (thn (hi pins s σ H _ I h) fun v s1 h1=>thn h1 fun itv s2 h2=>?_) hs
 obtain ⟨it,fp,tn,J,H2,e,I2,T,st2,f2,W,⟨m0,w0⟩,turn⟩:=h2
 subst e
 have stat:∀ {H':Hp},(∀ b ∈ fp,H' b=none)->∀ b ∈ fp,FpOk X pins H' b:=fun hn b hb=>⟨hn b hb,(f2 b hb).2⟩
 refine codeAny_forLoop_any (fun n s'=>∃ i σ' H',Inv X pins σ' H' s'/\tn i s'.heap/\(∀ b ∈ fp,H' b=none)/\W i n σ' H') ?_ m0 ⟨0,σ,H2,I2,st2,fun b hb=>(f2 b hb).1,w0⟩
 rintro n s3 ⟨i,σ3,H3,I3,st3,fr3,w3⟩
 rcases turn i n σ3 H3 w3 with ⟨stop,qn⟩ | ⟨go,N,hN,step⟩
 ·refine wpAny_passesOwn hp (thn (T.done X rfl rfl rfl hc i pins s3 σ3 H3 X.xe I3 (stat fr3) st3 stop) fun r s4 ⟨hr,I4⟩=>?_)
  subst hr
  exact wpAny_execs_nil ⟨σ3,H3,I4,qn⟩
 ·refine wpAny_passesOwn hp (thn (T.item X rfl rfl rfl hc i pins s3 σ3 H3 X.xe I3 (stat fr3) st3 go) fun r s4 ⟨u,hr,h4⟩=>?_)
  subst hr
  refine wpAny_passesOwn hp (thn h4 fun _ s5 hz16=>?_)
  obtain ⟨x,H5,I5,r5,y5,st5,fr5⟩:=hz16
  have I5':=I5.pinned (stat fr5) (T.obj _ _ st5)
  refine wpAny_passesOwn hp (thn (hg _ s5 σ3 H5 x u _ I5' r5 (step x H5 y5)) fun _ s6 hz17=>?_)
  obtain ⟨σ6,H6,I6,q6⟩:=hz17
  refine wpAny_passesOwn hp (thn (hb _ s6 σ6 H6 _ I6 q6) fun f s7 q7=>?_)
  have again:∀ {σ7:St} {H7:Hp},Inv X (pins ++ pinsAt fp s5.heap) σ7 H7 s7->N σ7 H7->∃ m,m < n/\∃ i σ' H',Inv X pins σ' H' s7/\tn i s7.heap/\(∀ b ∈ fp,H' b=none)/\W i m σ' H':=fun {σ7 H7} I7 n7=>by
   obtain ⟨m',hm,w7⟩:=hN σ7 H7 n7
   refine ⟨m',hm,i + 1,σ7,H7,I7.unpinned,T.keep _ _ _ st5 fun b hb o e=>(I7.pin (b,o) (List.mem_append_right _ (List.mem_append_right _ (mem_pinsAt hb e)))).1,fun b hb=>?_,w7⟩
   obtain ⟨o,e,d⟩:=T.obj _ _ st5 b hb
   exact (I7.pin (b,o) (List.mem_append_right _ (List.mem_append_right _ (mem_pinsAt hb e)))).2.1
  cases f with
  | next=>obtain ⟨σ7,H7,I7,n7⟩:=q7;exact again I7 n7
  | cont=>obtain ⟨σ7,H7,I7,n7⟩:=q7;exact again I7 n7
  | brk=>obtain ⟨σ7,H7,I7,q7⟩:=q7;exact ⟨σ7,H7,I7.unpinned,q7⟩
  | ret v=>obtain ⟨x7,σ7,H7,I7,r7,q7⟩:=q7;exact ⟨x7,σ7,H7,I7.unpinned,r7,q7⟩
end
theorem for_list {K:PySem.W.Frag} {a:Addr} {xs:List V} {g:TG} {tb:TS} {D:Ends} {σ:St} {H:Hp} (Pv:Nat->St->Hp->Prop) (h0:Pv 0 σ H) (hl:∀ i σ H,i <= xs.length->Pv i σ H->SqL K H a xs)
  (hs:∀ i x σ H,xs[i]?=some x->Pv i σ H->g x σ H fun σ2 H2=>tb { D with nx:=Pv (i + 1),ct:=Pv (i + 1),bk:=D.nx } σ2 H2) (hd:∀ σ H,Pv xs.length σ H->D.nx σ H) :
  ∃ W:Nat->Nat->St->Hp->Prop,(∃ m,W 0 m σ H)/\∀ i m σ H,W i m σ H ->
   ((Itl K a).stop i H/\D.nx σ H) \/ ((Itl K a).go i H/\∃ N:St->Hp->Prop,(∀ σ' H',N σ' H'->∃ m',m' < m/\W (i + 1) m' σ' H')/\∀ x H',(Itl K a).yld i H x H'->g x σ H' fun σ2 H2=>tb { D with nx:=N,ct:=N,bk:=D.nx } σ2 H2):=by
 refine ⟨fun i m σ H=>m=xs.length - i/\i <= xs.length/\Pv i σ H,⟨xs.length,by simp,Nat.zero_le _,h0⟩,?_⟩
 rintro i m σ H ⟨rfl,hi,p⟩
 have q:=hl i σ H hi p
 by_cases hlt:i < xs.length
 ·refine .inr ⟨⟨xs,xs[i],q,by simp [hlt]⟩,Pv (i + 1),fun σ' H' p'=>⟨xs.length - (i + 1),by omega,rfl,hlt,p'⟩,fun x H' y=>?_⟩
  obtain ⟨e,y⟩:=y
  subst e
  exact hs i x σ _ (y xs q) p
 ·have e:i=xs.length:=by omega
  subst e
  exact .inl ⟨⟨xs,q,Nat.le_refl _⟩,hd σ H p⟩
theorem for_range {lo:Int} {n:Nat} {g:TG} {tb:TS} {D:Ends} {σ:St} {H:Hp} (Pv:Nat->St->Hp->Prop) (h0:Pv 0 σ H)
  (hs:∀ i σ H,i < n->Pv i σ H->g (.int (lo + i)) σ H fun σ2 H2=>tb { D with nx:=Pv (i + 1),ct:=Pv (i + 1),bk:=D.nx } σ2 H2) (hd:∀ σ H,Pv n σ H->D.nx σ H) :
  ∃ W:Nat->Nat->St->Hp->Prop,(∃ m,W 0 m σ H)/\∀ i m σ H,W i m σ H ->
   ((Itr lo n).stop i H/\D.nx σ H) \/ ((Itr lo n).go i H/\∃ N:St->Hp->Prop,(∀ σ' H',N σ' H'->∃ m',m' < m/\W (i + 1) m' σ' H')/\∀ x H',(Itr lo n).yld i H x H'->g x σ H' fun σ2 H2=>tb { D with nx:=N,ct:=N,bk:=D.nx } σ2 H2):=by
 refine ⟨fun i m σ H=>m=n - i/\i <= n/\Pv i σ H,⟨n,by simp,Nat.zero_le _,h0⟩,?_⟩
 rintro i m σ H ⟨rfl,hi,p⟩
 by_cases hlt:i < n
 ·refine .inr ⟨hlt,Pv (i + 1),fun σ' H' p'=>⟨n - (i + 1),by omega,rfl,hlt,p'⟩,fun x H' y=>?_⟩
  obtain ⟨e,y⟩:=y
  subst e y
  exact hs i σ _ hlt p
 ·have e:i=n:=by omega
  subst e
  exact .inl ⟨Nat.le_refl _,hd σ H p⟩
end L2
namespace L2
open PySem PySem.Spec PyProof.Rows
abbrev R2:=V->V->Hp->VK->Prop
def OpR (X:Cx) (f:Value->Value->Sem Value) (r:R2):Prop:=
 ∀ (pins:List (Addr × Obj)) (s:Shared) (σ:St) (H:Hp) (x y:V) (v u:Value) (Q:VK),Inv X pins σ H s->RelV x v->RelV y u->r x y H Q ->
  wpAny (model X.prog X.w) X.A (f v u) (EP X pins σ Q) X.xe s
def UnR (X:Cx) (f:Value->Sem Value) (r:V->Hp->VK->Prop):Prop:=
 ∀ (pins:List (Addr × Obj)) (s:Shared) (σ:St) (H:Hp) (x:V) (v:Value) (Q:VK),Inv X pins σ H s->RelV x v->r x H Q ->
  wpAny (model X.prog X.w) X.A (f v) (EP X pins σ Q) X.xe s
def CallR (X:Cx) (f:Value) (r:List V->Hp->VK->Prop):Prop:=
 ∀ (pins:List (Addr × Obj)) (s:Shared) (σ:St) (H:Hp) (xs:List V) (us:List Value) (Q:VK),Inv X pins σ H s->Vals xs us->r xs H Q ->
  wpAny (model X.prog X.w) X.A (call f us) (EP X pins σ Q) X.xe s
def TruR (X:Cx) (r:V->Hp->(Bool->Hp->Prop)->Prop):Prop:=
 ∀ (pins:List (Addr × Obj)) (s:Shared) (σ:St) (H:Hp) (x:V) (v:Value) (Q:Bool->Hp->Prop),Inv X pins σ H s->RelV x v->r x H Q ->
  wpAny (model X.prog X.w) X.A (truthy v) (TP X pins σ Q) X.xe s
def tOp (r:R2) (ta tb:TE):TE:=fun σ H Q=>ta σ H fun x H1=>tb σ H1 fun y H2=>r x y H2 Q
def tUn (r:V->Hp->VK->Prop) (ta:TE):TE:=fun σ H Q=>ta σ H fun x H1=>r x H1 Q
def rI (C:Int->Int->Prop) (g:Int->Int->V):R2:=fun x y H Q=>∃ i j,x=.int i/\y=.int j/\C i j/\Q (g i j) H
def rI0 (g:Int->Int->V):R2:=fun x y H Q=>∃ i j,x=.int i/\y=.int j/\Q (g i j) H
def rU (g:Int->V):V->Hp->VK->Prop:=fun x H Q=>∃ i,x=.int i/\Q (g i) H
section
variable {X:Cx} {a b c:Expr} {ta tb tc:TE} {pos:Pos}
theorem binT (ha:PE X a ta) (hb:PE X b tb) {pins:List (Addr × Obj)} {s:Shared} {σ:St} {H:Hp} {R:V->V->Hp->Prop} (I:Inv X pins σ H s)
  (h:ta σ H fun x H1=>tb σ H1 fun y H2=>R x y H2) {Q:Value->Shared->Prop} {f:Value->Value->Sem Value}
  (hf:∀ v u s2 x y H2,Inv X pins σ H2 s2->RelV x v->RelV y u->R x y H2->wpAny (model X.prog X.w) X.A (f v u) Q X.xe s2) :
  wpAny (model X.prog X.w) X.A (eval a X.env) (fun v s₁=>wpAny (model X.prog X.w) X.A (eval b X.env) (fun u s₂=>wpAny (model X.prog X.w) X.A (f v u) Q X.xe s₂) X.xe s₁) X.xe s:=by
 refine thn (ha pins s σ H _ I h) fun v s1 hz18=>?_
 obtain ⟨x,H1,I1,r1,q1⟩:=hz18
 refine thn (hb pins s1 σ H1 _ I1 q1) fun u s2 hz19=>?_
 obtain ⟨y,H2,I2,r2,q2⟩:=hz19
 exact hf v u s2 x y H2 I2 r1 r2 q2
theorem pe_op {op:Operator} {r:R2} (ho:OpR X (binaryOp op) r) (ha:PE X a ta) (hb:PE X b tb):PE X (.BinOp a op b pos) (tOp r ta tb):=by
 intro pins s σ H Q I h
 exact wpAny_BinOp (binT ha hb I h fun v u s2 x y H2 I2 rx ry q=>ho pins s2 σ H2 x y v u Q I2 rx ry q)
theorem pe_un {op:UnaryOp} {r:V->Hp->VK->Prop} (ho:UnR X (unaryOp op) r) (ha:PE X a ta):PE X (.UnaryOp op a pos) (tUn r ta):=by
 intro pins s σ H Q I h
 exact UnaryOp_ (thn (ha pins s σ H _ I h) fun v s1 ⟨x,H1,I1,r1,q1⟩=>ho pins s1 σ H1 x v Q I1 r1 q1)
theorem opI {f:Value->Value->Sem Value} {C:Int->Int->Prop} {g:Int->Int->Int}
  (rule:∀ (i j:Int) (t u:Tok) (s:Shared) (Q:Value->Shared->Prop) (E:Value->Shared->Prop),C i j->Q (.int (g i j) s.toks) { s with toks:=s.toks + 1 }->wpAny (model X.prog X.w) X.A (f (.int i t) (.int j u)) Q E s) :
  OpR X f (rI C fun i j=>.int (g i j)):=by
 intro pins s σ H x y v u Q I rx ry h
 obtain ⟨i,j,rfl,rfl,hc,q⟩:=h
 obtain ⟨t,rfl⟩:=rx
 obtain ⟨t',rfl⟩:=ry
 exact rule i j t t' s _ _ hc ⟨.int (g i j),H,I.tok _,⟨_,rfl⟩,q⟩
theorem opI0 {f:Value->Value->Sem Value} {g:Int->Int->Int}
  (rule:∀ (i j:Int) (t u:Tok) (s:Shared) (Q:Value->Shared->Prop) (E:Value->Shared->Prop),Q (.int (g i j) s.toks) { s with toks:=s.toks + 1 }->wpAny (model X.prog X.w) X.A (f (.int i t) (.int j u)) Q E s) :
  OpR X f (rI0 fun i j=>.int (g i j)):=by
 intro pins s σ H x y v u Q I rx ry h
 obtain ⟨i,j,rfl,rfl,q⟩:=h
 obtain ⟨t,rfl⟩:=rx
 obtain ⟨t',rfl⟩:=ry
 exact rule i j t t' s _ _ ⟨.int (g i j),H,I.tok _,⟨_,rfl⟩,q⟩
theorem opB0 {f:Value->Value->Sem Value} {g:Int->Int->Bool}
  (rule:∀ (i j:Int) (t u:Tok) (s:Shared) (Q:Value->Shared->Prop) (E:Value->Shared->Prop),Q (.bool (g i j)) s->wpAny (model X.prog X.w) X.A (f (.int i t) (.int j u)) Q E s) :
  OpR X f (rI0 fun i j=>.bl (g i j)):=by
 intro pins s σ H x y v u Q I rx ry h
 obtain ⟨i,j,rfl,rfl,q⟩:=h
 obtain ⟨t,rfl⟩:=rx
 obtain ⟨t',rfl⟩:=ry
 exact rule i j t t' s _ _ ⟨.bl (g i j),H,I,rfl,q⟩
def CDiv (i j:Int):Prop:=0 < j/\j < 1073741824
def CMul (i j:Int):Prop:=(-(2 ^ 64) < i/\i < 2 ^ 64) \/ (-(2 ^ 64) < j/\j < 2 ^ 64)
theorem CMul.ok {i j:Int} (h:CMul i j):IntMulOk i j:=by
 rcases h with ⟨h1,h2⟩ | ⟨h1,h2⟩
 ·exact .of_left (intBits_le_64 h1 h2)
 ·exact .of_right (intBits_le_64 h1 h2)
theorem op_add:OpR X (binaryOp .Add) (rI0 fun i j=>.int (i + j)):=opI0 fun _ _ _ _ _ _ _ q=>add_int q
theorem op_sub:OpR X (binaryOp .Sub) (rI0 fun i j=>.int (i - j)):=opI0 fun _ _ _ _ _ _ _ q=>sub_int q
theorem op_mul:OpR X (binaryOp .Mult) (rI CMul fun i j=>.int (i * j)):=opI fun _ _ _ _ _ _ _ hc q=>mul_int q hc.ok
theorem op_fdiv:OpR X (binaryOp .FloorDiv) (rI CDiv fun i j=>.int (i / j)):=opI fun i j _ _ _ _ _ hc q=>by
 have h1:(0:Int) < j:=hc.1
 have h2:j < 1073741824:=hc.2
 exact floordiv_int (by omega) (by rw [Int.fdiv_eq_ediv_of_nonneg i (by omega)];exact q) (.inl (PyProof.noPylong_small (by omega)))
theorem op_mod:OpR X (binaryOp .Mod) (rI (fun _ j=>0 < j) fun i j=>.int (i % j)):=opI fun i j _ _ _ _ _ hc q=>by
 have h1:(0:Int) < j:=hc
 exact mod_int' (by omega) (by rw [Int.fmod_eq_emod_of_nonneg i (by omega)];exact q)
theorem unI {f:Value->Sem Value} {g:Int->Int}
  (rule:∀ (i:Int) (t:Tok) (s:Shared) (Q:Value->Shared->Prop) (E:Value->Shared->Prop),Q (.int (g i) s.toks) { s with toks:=s.toks + 1 }->wpAny (model X.prog X.w) X.A (f (.int i t)) Q E s) :
  UnR X f (rU fun i=>.int (g i)):=by
 intro pins s σ H x v Q I rx h
 obtain ⟨i,rfl,q⟩:=h
 obtain ⟨t,rfl⟩:=rx
 exact rule i t s _ _ ⟨.int (g i),H,I.tok _,⟨_,rfl⟩,q⟩
theorem un_neg:UnR X (unaryOp .USub) (rU fun i=>.int (-i)):=unI fun _ _ _ _ _ q=>neg_int q
end
def scal:V->V->Bool
 | .non,.non=>true | .non,.int _=>true | .int _,.non=>true | .non,.bl _=>true | .bl _,.non=>true | .non,.str _=>true | .str _,.non=>true
 | .int _,.int _=>true | .bl _,.bl _=>true | .str _,.str _=>true | .byt _,.byt _=>true
 | .int _,.str _=>true | .str _,.int _=>true | .bl _,.str _=>true | .str _,.bl _=>true
 | _,_=>false
def rEq:R2:=fun x y H Q=>scal x y=true/\Q (.bl (decide (x=y))) H
def rNe:R2:=fun x y H Q=>scal x y=true/\Q (.bl (!decide (x=y))) H
theorem dec_int {i j:Int}:decide (V.int i=V.int j)=(i == j):=by
 rw [Bool.eq_iff_iff]
 simp
theorem dec_bl {i j:Bool}:decide (V.bl i=V.bl j)=(i == j):=by
 rw [Bool.eq_iff_iff]
 simp
theorem dec_str {i j:Str}:decide (V.str i=V.str j)=(i == j):=by
 rw [Bool.eq_iff_iff]
 simp
theorem dec_byt {i j:Array UInt8}:decide (V.byt i=V.byt j)=(i.toList == j.toList):=by
 rw [Bool.eq_iff_iff]
 cases i
 cases j
 simp
section
variable {X:Cx} {a b c:Expr} {ta tb tc:TE} {pos:Pos}
theorem fin_bl {pins:List (Addr × Obj)} {σ:St} {H:Hp} {s:Shared} {Q:VK} {k k':Bool} (I:Inv X pins σ H s) (q:Q (.bl k) H) (e:k=k'):EP X pins σ Q (.bool k') s:=by
 subst e
 exact ⟨.bl k,H,I,rfl,q⟩
theorem op_eq:OpR X (compareOp .Eq) rEq:=by
 intro pins s σ H x y v u Q I rx ry h
 obtain ⟨hs,q⟩:=h
 cases x with
 | non=>
  cases rx
  cases y with
  | non=>cases ry;exact PySem.EqNone.eq_none_none (fin_bl I q (by simp))
  | bl j=>cases ry;exact PySem.EqNone.eq_none_bool (fin_bl I q (by simp))
  | int j=>obtain ⟨t',rfl⟩:=ry;exact PySem.EqNone.eq_none_int (fin_bl I q (by simp))
  | str j=>obtain ⟨t',rfl⟩:=ry;exact PySem.EqNone.eq_none_str (fin_bl I q (by simp))
  | _=>exact absurd (show false=true from hs) Bool.false_ne_true
 | bl i=>
  cases rx
  cases y with
  | non=>cases ry;exact PySem.EqNone.eq_bool_none (fin_bl I q (by simp))
  | bl j=>cases ry;exact eq_bool (fin_bl I q dec_bl)
  | str j=>obtain ⟨t',rfl⟩:=ry;exact PySem.EqMixed.eq_bool_str (fin_bl I q (by simp))
  | _=>exact absurd (show false=true from hs) Bool.false_ne_true
 | int i=>
  obtain ⟨t,rfl⟩:=rx
  cases y with
  | non=>cases ry;exact PySem.EqNone.eq_int_none (fin_bl I q (by simp))
  | int j=>obtain ⟨t',rfl⟩:=ry;exact eq_int (fin_bl I q dec_int)
  | str j=>obtain ⟨t',rfl⟩:=ry;exact PySem.EqMixed.eq_int_str (fin_bl I q (by simp))
  | _=>exact absurd (show false=true from hs) Bool.false_ne_true
 | str i=>
  obtain ⟨t,rfl⟩:=rx
  cases y with
  | non=>cases ry;exact PySem.EqNone.eq_str_none (fin_bl I q (by simp))
  | bl j=>cases ry;exact PySem.EqMixed.eq_str_bool (fin_bl I q (by simp))
  | int j=>obtain ⟨t',rfl⟩:=ry;exact PySem.EqMixed.eq_str_int (fin_bl I q (by simp))
  | str j=>obtain ⟨t',rfl⟩:=ry;exact eq_str (fin_bl I q dec_str)
  | _=>exact absurd (show false=true from hs) Bool.false_ne_true
 | byt i=>
  obtain ⟨t,rfl⟩:=rx
  cases y with
  | byt j=>obtain ⟨t',rfl⟩:=ry;exact PySem.W.eq_bytes (fin_bl I q dec_byt)
  | _=>exact absurd (show false=true from hs) Bool.false_ne_true
 | _=>cases y <;> exact absurd (show false=true from hs) Bool.false_ne_true
theorem op_ne:OpR X (compareOp .NotEq) rNe:=by
 intro pins s σ H x y v u Q I rx ry h
 obtain ⟨hs,q⟩:=h
 cases x with
 | non=>
  cases rx
  cases y with
  | non=>cases ry;exact PySem.EqNone.ne_none_none (fin_bl I q (by simp))
  | bl j=>cases ry;exact PySem.EqNone.ne_none_bool (fin_bl I q (by simp))
  | int j=>obtain ⟨t',rfl⟩:=ry;exact PySem.EqNone.ne_none_int (fin_bl I q (by simp))
  | str j=>obtain ⟨t',rfl⟩:=ry;exact PySem.EqNone.ne_none_str (fin_bl I q (by simp))
  | _=>exact absurd (show false=true from hs) Bool.false_ne_true
 | bl i=>
  cases rx
  cases y with
  | non=>cases ry;exact PySem.EqNone.ne_bool_none (fin_bl I q (by simp))
  | bl j=>cases ry;exact ne_bool (fin_bl I q (congrArg not dec_bl))
  | str j=>obtain ⟨t',rfl⟩:=ry;exact PySem.EqMixed.ne_bool_str (fin_bl I q (by simp))
  | _=>exact absurd (show false=true from hs) Bool.false_ne_true
 | int i=>
  obtain ⟨t,rfl⟩:=rx
  cases y with
  | non=>cases ry;exact PySem.EqNone.ne_int_none (fin_bl I q (by simp))
  | int j=>obtain ⟨t',rfl⟩:=ry;exact ne_int (fin_bl I q (congrArg not dec_int))
  | str j=>obtain ⟨t',rfl⟩:=ry;exact PySem.EqMixed.ne_int_str (fin_bl I q (by simp))
  | _=>exact absurd (show false=true from hs) Bool.false_ne_true
 | str i=>
  obtain ⟨t,rfl⟩:=rx
  cases y with
  | non=>cases ry;exact PySem.EqNone.ne_str_none (fin_bl I q (by simp))
  | bl j=>cases ry;exact PySem.EqMixed.ne_str_bool (fin_bl I q (by simp))
  | int j=>obtain ⟨t',rfl⟩:=ry;exact PySem.EqMixed.ne_str_int (fin_bl I q (by simp))
  | str j=>obtain ⟨t',rfl⟩:=ry;exact ne_str (fin_bl I q (congrArg not dec_str))
  | _=>exact absurd (show false=true from hs) Bool.false_ne_true
 | byt i=>
  obtain ⟨t,rfl⟩:=rx
  cases y with
  | byt j=>obtain ⟨t',rfl⟩:=ry;exact PySem.W.ne_bytes (fin_bl I q (congrArg not dec_byt))
  | _=>exact absurd (show false=true from hs) Bool.false_ne_true
 | _=>cases y <;> exact absurd (show false=true from hs) Bool.false_ne_true
theorem op_lt:OpR X (compareOp .Lt) (rI0 fun i j=>.bl (decide (i < j))):=opB0 fun _ _ _ _ _ _ _ q=>lt_int q
theorem op_le:OpR X (compareOp .LtE) (rI0 fun i j=>.bl (decide (i <= j))):=opB0 fun _ _ _ _ _ _ _ q=>le_int q
theorem op_gt:OpR X (compareOp .Gt) (rI0 fun i j=>.bl (decide (j < i))):=opB0 fun _ _ _ _ _ _ _ q=>gt_int q
theorem op_in_str:OpR X (compareOp .In) (fun x y H Q=>∃ i j,x=.str i/\y=.str j/\Q (.bl (!(Builtin.Str.occurrences j i 0 j.length 1).isEmpty)) H):=by
 intro pins s σ H x y v u Q I rx ry h
 obtain ⟨i,j,rfl,rfl,q⟩:=h
 obtain ⟨t,rfl⟩:=rx
 obtain ⟨t',rfl⟩:=ry
 exact in_str (fin_bl I q rfl)
theorem op_isN:OpR X (compareOp .Is) (fun x y H Q=>y=.non/\Q (.bl (decide (x=.non))) H):=by
 intro pins s σ H x y v u Q I rx ry h
 obtain ⟨rfl,q⟩:=h
 cases ry
 refine is_none_gen (fin_bl I q ?_)
 cases x <;> first
  | (cases rx;rfl)
  | (obtain ⟨t,rfl⟩:=rx;rfl)
theorem op_notN:OpR X (compareOp .IsNot) (fun x y H Q=>y=.non/\Q (.bl (!decide (x=.non))) H):=by
 intro pins s σ H x y v u Q I rx ry h
 obtain ⟨rfl,q⟩:=h
 cases ry
 refine isnot_none_gen (fin_bl I q ?_)
 cases x <;> first
  | (cases rx;rfl)
  | (obtain ⟨t,rfl⟩:=rx;rfl)
theorem nomark (b:Expr) {op:CmpOp} (h:op ≠ .In:=by decide) (h2:op ≠ .NotIn:=by decide):behindInMarks op b=false:=by
 have e1:(op == CmpOp.In)=false:=by cases op <;> first | rfl | exact absurd rfl h
 have e2:(op == CmpOp.NotIn)=false:=by cases op <;> first | rfl | exact absurd rfl h2
 cases b <;> simp [behindInMarks,e1,e2]
theorem pe_cmpR {op:CmpOp} {r:R2} (ho:OpR X (compareOp op) r) (ha:PE X a ta) (hb:PE X b tb) (hm:behindInMarks op b=false):PE X (.Compare a [op] [b] pos) (tOp r ta tb):=by
 intro pins s σ H Q I h
 exact wpAny_Compare1 (binT ha hb I h fun v u s2 x y H2 I2 rx ry q=>ho pins s2 σ H2 x y v u Q I2 rx ry q) hm
def tTest (t:TE):TT:=fun σ H Q=>t σ H fun x H'=>∃ k,x=.bl k/\Q k H'
theorem pt_cmpR {op:CmpOp} {r:R2} (ho:OpR X (compareOp op) r) (ha:PE X a ta) (hb:PE X b tb) (hm:behindInMarks op b=false):PT X (.Compare a [op] [b] pos) (tTest (tOp r ta tb)):=by
 intro pins s σ H Q I h
 refine wpAny_isTrue_Compare1 (thn (ha pins s σ H _ I h) fun v s1 ⟨x,H1,I1,r1,q1⟩=>thn (hb pins s1 σ H1 _ I1 q1) fun u s2 ⟨y,H2,I2,r2,q2⟩=>
  thn (ho pins s2 σ H2 x y v u _ I2 r1 r2 q2) fun c s3 ⟨z,H3,I3,r3,k,e,q3⟩=>?_) hm
 subst e
 cases r3
 exact wpAny_truthy_bool ⟨H3,I3,q3⟩
def tChain (r r':R2) (ta tb tc:TE):TE:=fun σ H Q=>ta σ H fun x H1=>tb σ H1 fun y H2=>r x y H2 fun z H3=>∃ k,z=.bl k /\
 (if k=true then tc σ H3 fun w' H4=>r' y w' H4 Q else Q (.bl false) H3)
theorem pe_chain {op op':CmpOp} {r r':R2} (ho:OpR X (compareOp op) r) (ho':OpR X (compareOp op') r') (ha:PE X a ta) (hb:PE X b tb) (hc:PE X c tc)
  (hm:lastMarks [op,op'] [b,c]=false:=by with_unfolding_all rfl):PE X (.Compare a [op,op'] [b,c] pos) (tChain r r' ta tb tc):=by
 intro pins s σ H Q I h
 refine Compare_chain (thn (ha pins s σ H _ I h) fun v s1 ⟨x,H1,I1,r1,q1⟩=>chain_link (thn (hb pins s1 σ H1 _ I1 q1) fun u s2 ⟨y,H2,I2,r2,q2⟩=>
  thn (ho pins s2 σ H2 x y v u _ I2 r1 r2 q2) fun d s3 ⟨z,H3,I3,r3,k,e,q3⟩=>?_)) hm
 subst e
 cases r3
 refine wpAny_truthy_bool ?_
 cases k with
 | false=>exact ite_ff ⟨.bl false,H3,I3,rfl,q3⟩
 | true=>exact ite_tt (chain_last (thn (hc pins s3 σ H3 _ I3 q3) fun w' s4 ⟨z',H4,I4,r4,q4⟩=>ho' pins s4 σ H4 y z' u w' Q I4 r2 r4 q4))
def TruV (K:PySem.W.Frag) (x:V) (H:Hp) (k:Bool):Prop:=
 match x with
 | .non=>k=false
 | .bl b=>k=b
 | .int i=>k=(i != 0)
 | .str y=>y.length <= sizeLine/\k=((y.length:Int) != 0)
 | .byt y=>y.size <= sizeLine/\k=((y.size:Int) != 0)
 | .ref p=>(∃ xs,SqL K H p xs/\k = !xs.isEmpty) \/ (∃ xs,SqT K H p xs/\k = !xs.isEmpty) \/ ∃ kvs,H p=some (.dK kvs)/\k = !kvs.isEmpty
 | _=>False
theorem isEmpty_kv {κ:Type} {kvs:List (κ × V)} {vs:List (κ × Value)} (r:KV kvs vs):(!vs.isEmpty) = !kvs.isEmpty:=by
 cases r <;> rfl
theorem isEmpty_of {xs:List V} {its:List Value} (r:Vals xs its):(!its.toArray.isEmpty) = !xs.isEmpty:=by
 cases r <;> simp
theorem line63:(sizeLine:Nat) < 2 ^ 63:=by rw [sizeLine_eq];decide
theorem tru_ok:TruR X (fun x H Q=>∃ k,TruV X.K x H k/\Q k H):=by
 intro pins s σ H x v Q I rx h
 obtain ⟨k,e,q⟩:=h
 have hl:=line63
 have hs:sizeLine=16777216:=sizeLine_eq
 cases x with
 | non=>
  cases rx
  have e':k=false:=e
  subst e'
  exact truthy_none ⟨H,I,q⟩
 | bl b=>
  cases rx
  have e':k=b:=e
  subst e'
  exact wpAny_truthy_bool ⟨H,I,q⟩
 | int i=>
  obtain ⟨t,rfl⟩:=rx
  have e':k=(i != 0):=e
  subst e'
  exact PySem.P.truthy_int ⟨H,I,q⟩
 | str y=>
  obtain ⟨t,rfl⟩:=rx
  obtain ⟨hy,e'⟩:y.length <= sizeLine/\k=((y.length:Int) != 0):=e
  subst e'
  exact PySem.P.truthy_str (by omega) ⟨H,I.tok _,q⟩
 | byt y=>
  obtain ⟨t,rfl⟩:=rx
  obtain ⟨hy,e'⟩:y.size <= sizeLine/\k=((y.size:Int) != 0):=e
  subst e'
  exact PySem.W.truthy_bytes (by omega) ⟨H,I.tok _,q⟩
 | ref p=>
  cases rx
  have e':(∃ xs,SqL X.K H p xs/\k = !xs.isEmpty) \/ (∃ xs,SqT X.K H p xs/\k = !xs.isEmpty) \/ ∃ kvs,H p=some (.dK kvs)/\k = !kvs.isEmpty:=e
  rcases e' with ⟨xs,hx,e'⟩ | ⟨xs,hx,e'⟩ | ⟨kvs,hx,e'⟩
  ·subst e'
   obtain ⟨its,r,pl,hz⟩:=I.list hx
   have hlen:=r.length
   exact wpAny_truthy_list pl.isList (by simp only [List.size_toArray];omega) ⟨H,I.tok _,by rw [isEmpty_of r];exact q⟩
  ·subst e'
   obtain ⟨its,r,pl,hz⟩:=I.tuple hx
   have hlen:=r.length
   exact truthy_tuple pl (by simp only [List.size_toArray];omega) ⟨H,I.tok _,by rw [isEmpty_of r];exact q⟩
  ·subst e'
   obtain ⟨hz,hS,vs,r,m⟩:kvs.length <= sizeLine/\(p == sysModules)=false/\∃ vs,KV kvs vs/\s.heap.DictOf (mixKind X.prog X.w) p vs:=I.hok p _ hx
   have hlen:kvs.length=vs.length:=Paired.length r
   exact wpAny_truthy_dict hS m (by omega) ⟨H,I.tok _,by rw [isEmpty_kv r];exact q⟩
 | _=>exact (show False from e).elim
theorem pt_truth (ha:PE X a ta) (he:∀ whole,isTrue a X.env whole=(do let v <- whole;standAt a.pos;holding [v] (truthy v))) :
  PT X a (fun σ H Q=>ta σ H fun x H'=>∃ k,TruV X.K x H' k/\Q k H'):=by
 intro pins s σ H Q I h
 exact isTrue_plain (thn (ha pins s σ H _ I h) fun v s1 ⟨x,H1,I1,r1,q1⟩=>tru_ok pins s1 σ H1 x v Q I1 r1 q1) (he _)
theorem op_add_str:OpR X (binaryOp .Add) (fun x y H Q=>∃ i j,x=.str i/\y=.str j/\i.length + j.length <= sizeLine/\Q (.str (i ++ j)) H):=by
 intro pins s σ H x y v u Q I rx ry h
 obtain ⟨i,j,rfl,rfl,hz,q⟩:=h
 obtain ⟨t,rfl⟩:=rx
 obtain ⟨t',rfl⟩:=ry
 exact add_str (fun t' tk=>⟨.str (i ++ j),H,I.tok _,⟨_,rfl⟩,q⟩) hz
theorem vals1 {x:V} {us:List Value} (r:Vals [x] us):∃ u,us=[u]/\RelV x u:=by
 cases r with
 | cons r1 r2=>cases r2;exact ⟨_,rfl,r1⟩
theorem call_int1:CallR X (.type "int") (fun xs H Q=>(∃ i,xs=[.int i]/\Q (.int i) H) \/ ∃ k,xs=[.bl k]/\Q (.int (if k then 1 else 0)) H):=by
 intro pins s σ H xs us Q I r h
 rcases h with ⟨i,rfl,q⟩ | ⟨k,rfl,q⟩
 ·obtain ⟨u,rfl,t,rfl⟩:=vals1 r
  exact call_int_int ⟨.int i,H,I,⟨_,rfl⟩,q⟩
 ·obtain ⟨u,rfl,r1⟩:=vals1 r
  cases r1
  exact call_int_bool ⟨.int (if k then 1 else 0),H,I.tok _,⟨_,rfl⟩,q⟩
def LenV (K:PySem.W.Frag) (x:V) (H:Hp) (n:Nat):Prop:=
 match x with
 | .str y=>y.length <= sizeLine/\n=y.length
 | .byt y=>y.size <= sizeLine/\n=y.size
 | .ref p=>(∃ xs,SqL K H p xs/\n=xs.length) \/ ∃ xs,SqT K H p xs/\n=xs.length
 | _=>False
theorem call_len:CallR X (.builtin "len") (fun xs H Q=>∃ x n,xs=[x]/\LenV X.K x H n/\Q (.int n) H):=by
 intro pins s σ H xs us Q I r h
 obtain ⟨x,n,rfl,e,q⟩:=h
 obtain ⟨u,rfl,rx⟩:=vals1 r
 have hl:=line63
 have hs:sizeLine=16777216:=sizeLine_eq
 cases x with
 | str y=>
  obtain ⟨t,rfl⟩:=rx
  obtain ⟨hy,e'⟩:y.length <= sizeLine/\n=y.length:=e
  subst e'
  exact len_str (by omega) ⟨.int _,H,I.tok _,⟨_,rfl⟩,q⟩
 | byt y=>
  obtain ⟨t,rfl⟩:=rx
  obtain ⟨hy,e'⟩:y.size <= sizeLine/\n=y.size:=e
  subst e'
  exact PySem.W.len_bytes (by omega) ⟨.int _,H,I.tok _,⟨_,rfl⟩,q⟩
 | ref p=>
  cases rx
  have e':(∃ xs,SqL X.K H p xs/\n=xs.length) \/ ∃ xs,SqT X.K H p xs/\n=xs.length:=e
  rcases e' with ⟨xs,hx,e'⟩ | ⟨xs,hx,e'⟩
  ·subst e'
   obtain ⟨its,r',pl,hz⟩:=I.list hx
   have hlen:=r'.length
   exact Calls.call_len_list pl.isList (by simp only [List.size_toArray];omega) ⟨.int xs.length,H,I.tok _,⟨_,by simp only [List.size_toArray];rw [hlen]⟩,q⟩
  ·subst e'
   obtain ⟨its,r',pl,hz⟩:=I.tuple hx
   have hlen:=r'.length
   exact len_tuple pl (by simp only [List.size_toArray];omega) ⟨.int xs.length,H,I.tok _,⟨_,by simp only [List.size_toArray];rw [hlen]⟩,q⟩
 | _=>exact (show False from e).elim
end
end L2
namespace L2
open PySem PySem.Spec PyProof.Rows
structure ObjM (h:Heap) (x dx C:Addr) (mA:Str->Option Value):Prop where
 obj:h.get? x=some (PySem.W.instObj C dx)
 ns:h.Ns1 dx mA
 ne:dx ≠ x
theorem lookIn_ns {h:Heap} {dx:Addr} {mA:Str->Option Value} (n:h.Ns1 dx mA):∃ od,h.get? dx=some od/\∀ name,PySem.W.lookIn name od=some (mA name):=by
 obtain ⟨o,es,ep,ho,hd,hk,_,hm⟩:=n
 refine ⟨o,ho,fun name=>?_⟩
 have e:=hm name
 unfold nsFind findBy at e
 rw [<- Array.find?_toList] at e
 unfold PySem.W.lookIn
 rw [hd]
 dsimp only
 split
 ·rename_i y q
  rw [q] at e
  exact congrArg some e
 ·rename_i q
  rw [q] at e
  have a:es.toList.any (·.refKey)=false:=by
   rw [List.any_eq_false]
   intro y hy
   obtain ⟨z,t,hkey⟩:=hk y (Array.mem_toList_iff.mp hy)
   simp [DictEntry.refKey,hkey]
  have a':¬ es.toList.any (·.refKey)=true:=by rw [a];exact Bool.false_ne_true
  rw [if_neg a']
  exact congrArg some e
theorem ObjM.look {h:Heap} {x dx C:Addr} {mA:Str->Option Value} (I:ObjM h x dx C mA):∃ od,PySem.W.InstAt h x (PySem.W.instObj C dx) C (some od)/\∀ name,PySem.W.lookIn name od=some (mA name):=
 let ⟨od,ho,hl⟩:=lookIn_ns I.ns
 ⟨od,⟨I.obj,rfl,rfl,ho⟩,hl⟩
section
variable {prog:Program} {w:World} {A:Around} {E:Value->Shared->Prop} {s:Shared} {K:PySem.W.Frag} {x dx C f:Addr} {mA:Str->Option Value} {name:Str} {v:Value}
theorem get_map {expr:Bool} {Q:Value->Shared->Prop} (X:K.In s.heap) (I:ObjM s.heap x dx C mA) (hg:PySem.W.plainGet K C name=true) (hh:PySem.W.hasDictIn K C=true)
  (ha:PySem.W.findIn K (.ref C) name=some none) (hv:mA name=some v) (hv':PySem.W.handedIn v=true) (h:Q v { s with toks:=s.toks + 1 }) :
  wpAny (model prog w) A (getAttr (.ref x) name expr) Q E s:=by
 obtain ⟨od,J,hl⟩:=I.look
 exact PySem.W.get_value X J (PySem.W.plainGet_of hg).1 (PySem.W.findObj_own hh ha rfl (by rw [hl,hv])) hv' h
theorem get_meth {pl:Sem Bool} {Q:Value × List Value->Shared->Prop} (X:K.In s.heap) (I:ObjM s.heap x dx C mA) (hg:PySem.W.plainGet K C name=true)
  (hf:PySem.W.findIn K (.ref C) name=some (some (.ref f))) (ht:PySem.W.isFn K (.ref f)=true) (hv:mA name=none) (h:Q (.ref f,[.ref x]) s) :
  wpAny (model prog w) A (getMethod (.ref x) name pl) Q E s:=by
 obtain ⟨od,J,hl⟩:=I.look
 exact PySem.W.method_fn X J (PySem.W.plainGet_of hg).1 (PySem.W.plainGet_of hg).2 hf (beq_iff_eq.mp ht) (by show (PySem.W.lookIn name od).map (·.isSome)=some false;rw [hl,hv];rfl) h
theorem set_map {ns:List Str} {Q:Unit->Shared->Prop} (X:K.In s.heap) (I:ObjM s.heap x dx C mA)
  (hs:PySem.W.findIn K (.ref C) "__setattr__"=some (some (.builtin "object.__setattr__"))) (hp:PySem.W.plainOver K C=true) (ht:PySem.W.takerIn K C name=some none) (hh:PySem.W.hasDictIn K C=true)
  (hw:PySem.Within mA ns) (hsz:ns.length <= sizeLine)
  (h:∀ h',ObjM h' x dx C (fun y=>if y=name then some v else mA y)->Heap.SameBut dx s.heap h'->Q () { s with heap:=h',toks:=s.toks + 2 }) :
  wpAny (model prog w) A (setAttr (.ref x) name v) Q E s:=by
 obtain ⟨od,J,hl⟩:=I.look
 refine PySem.W.set_plain X J hs (PySem.W.osa_open (s:={ s with toks:=s.toks + 1 }) (r:=none) X J hp ht fun b=>?_)
 obtain ⟨cd,hc,hd'⟩:=PySem.W.any_some hh
 have hx:s.heap.get? x=some ⟨.ref C,some dx,.plain,#[]⟩:=I.obj
 refine wpAny_bind (wpAny_pure (wpAny_bind (wpAny_bind (wpAny_loadPart hx (wpAny_bind (PySem.W.Looks.here (s:={ s with toks:=s.toks + 1 }) (PySem.W.looks_clsIn X hc) ?_))))))
 rw [hd']
 refine wpAny_pure (a:=some dx) (wpAny_bind (wpAny_pure (wpAny_bind ?_)))
 refine wpAny_nsSet1 (s:={ s with toks:=s.toks + 1 }) I.ns fun h' hn2 hs2=>?_
 obtain ⟨oD,esD,epD,hoD,hdD,hcD⟩:=hn2.count (PySem.Within.cons name v hw)
 refine wpAny_bind (wpAny_lookBehind hoD (by rw [hdD];exact pastItsLine_dict (Nat.le_trans hcD (by rw [List.length_cons];omega))) ?_)
 exact wpAny_pure (h _ ⟨(hs2.2 _ (Ne.symm I.ne)).trans I.obj,hn2,I.ne⟩ hs2)
theorem make_map {R:Result->Shared->Prop} {vs:List Value} {kw:List (Str × Value)} (X:K.In s.heap) (hm:PySem.W.makesIn K C=true)
  (hi:PySem.W.findIn K (.ref C) "__init__"=some (some (.ref f))) (hf:PySem.W.typeIn K (.ref f)=some (.type "function"))
  (h:codeAny (model prog w) (A.under (.builtin "type.__call__" ⟨.ref C :: vs,kw⟩)) (.call (.ref f) ⟨.ref (s.heap.objs.size + 1) :: vs,kw⟩) (PySem.W.InitBack (s.heap.objs.size + 1) R)
   { s with heap:=(s.heap.push PySem.W.emptyDict).push (PySem.W.instObj C s.heap.objs.size) }) :
  codeAny (model prog w) A (.call (.ref C) ⟨vs,kw⟩) R s:=by
 obtain ⟨hh,g,d,t,os⟩:=s
 exact PySem.W.make_core (PySem.W.makes_of X hm) (PySem.W.looks_findIn X hi) (fun self=>PySem.W.bind_fn X self hf) (.inl rfl) h
end
def putF (f:Str) (v:V):List (Str × V)->List (Str × V)
 | []=>[(f,v)]
 | (g,x) :: r=>if g=f then (g,v) :: r else (g,x) :: putF f v r
theorem lookup_putF (f g:Str) (v:V):∀ fs:List (Str × V),(putF f v fs).lookup g=if g=f then some v else fs.lookup g
 | []=>by
  show List.lookup g [(f,v)]=_
  by_cases h:g=f
  ·have hb:(g == f)=true:=beq_iff_eq.mpr h
   simp only [List.lookup,hb,if_pos h]
  ·have hb:(g == f)=false:=beq_eq_false_iff_ne.mpr h
   simp only [List.lookup,hb,if_neg h]
 | (k,x) :: r=>by
  have ih:=lookup_putF f g v r
  rw [show putF f v ((k,x) :: r)=(if k=f then (k,v) :: r else (k,x) :: putF f v r) from rfl]
  by_cases hk:k=f
  ·rw [if_pos hk]
   by_cases h:g=k
   ·have hb:(g == k)=true:=beq_iff_eq.mpr h
    simp only [List.lookup,hb,if_pos (h.trans hk)]
   ·have hb:(g == k)=false:=beq_eq_false_iff_ne.mpr h
    simp only [List.lookup,hb,if_neg (fun e:g=f=>h (e.trans hk.symm))]
  ·rw [if_neg hk]
   by_cases h:g=k
   ·have hb:(g == k)=true:=beq_iff_eq.mpr h
    simp only [List.lookup,hb,if_neg (fun e:g=f=>hk (h.symm.trans e))]
   ·have hb:(g == k)=false:=beq_eq_false_iff_ne.mpr h
    simp only [List.lookup,hb]
    exact ih
theorem keys_putF (f:Str) (v:V):∀ fs:List (Str × V),f ∈ (putF f v fs).map (·.1)/\∀ g,g ∈ fs.map (·.1)->g ∈ (putF f v fs).map (·.1)
 | []=>⟨by simp [putF],fun g h=>by simp at h⟩
 | (k,x) :: r=>by
  obtain ⟨i1,i2⟩:=keys_putF f v r
  rw [show putF f v ((k,x) :: r)=(if k=f then (k,v) :: r else (k,x) :: putF f v r) from rfl]
  by_cases hk:k=f
  ·rw [if_pos hk]
   subst hk
   exact ⟨by simp,fun g h=>by simpa using h⟩
  ·rw [if_neg hk]
   refine ⟨?_,fun g h=>?_⟩
   ·rw [List.map_cons]
    exact List.mem_cons_of_mem _ i1
   ·rw [List.map_cons] at h ⊢
    rcases List.mem_cons.mp h with e | e
    ·exact List.mem_cons.mpr (.inl e)
    ·exact List.mem_cons_of_mem _ (i2 g e)
theorem length_putF (f:Str) (v:V):∀ fs:List (Str × V),(putF f v fs).length <= fs.length + 1
 | []=>by simp [putF]
 | (k,x) :: r=>by
  have ih:=length_putF f v r
  rw [show putF f v ((k,x) :: r)=(if k=f then (k,v) :: r else (k,x) :: putF f v r) from rfl]
  by_cases hk:k=f
  ·rw [if_pos hk,List.length_cons,List.length_cons];omega
  ·rw [if_neg hk,List.length_cons,List.length_cons];omega
theorem RelO.some_of {v:V} {o:Option Value} (r:RelO (some v) o):∃ u,o=some u/\RelV v u:=by
 cases o with
 | none=>exact (show False from r).elim
 | some u=>exact ⟨u,rfl,r⟩
theorem RelO.none_of {o:Option Value} (r:RelO none o):o=none:=by
 cases o with
 | none=>rfl
 | some u=>exact (show False from r).elim
theorem handed_of {v:V} {u:Value} (r:RelV v u):PySem.W.handedIn u=true:=by
 cases v with
 | non=>cases (show u=Value.none from r);rfl
 | bl b=>cases (show u=Value.bool b from r);rfl
 | int i=>obtain ⟨t,e⟩:=(show ∃ t,u=Value.int i t from r);cases e;rfl
 | str x=>obtain ⟨t,e⟩:=(show ∃ t,u=Value.str x t from r);cases e;rfl
 | byt b=>obtain ⟨t,e⟩:=(show ∃ t,u=Value.bytes b t from r);cases e;rfl
 | flt b=>obtain ⟨t,e⟩:=(show ∃ t,u=Value.float b t from r);cases e;rfl
 | ref a=>cases (show u=Value.ref a from r);rfl
 | ty n=>cases (show u=Value.type n from r);rfl
section
variable {P:Program} {w:World} {H H':Hp} {h h':Heap} {a C dx:Addr} {fs fs':List (Str × V)}
theorem ins_get (hok:HOk P w H h) (e:H a=some (.ins C dx fs)):∃ mA,ObjM h a dx C mA/\(∀ f,RelO (fs.lookup f) (mA f))/\PySem.Within mA (fs.map (·.1))/\fs.length <= 1000/\H dx=some (.own a):=by
 obtain ⟨d,z,ne,ob,mA,n,r,q⟩:=(show ObjOk P w H h a (.ins C dx fs) from hok a _ e)
 exact ⟨mA,⟨ob,n,ne⟩,r,q,z,d⟩
end
structure Cls (K:PySem.W.Frag) (C:Addr):Prop where
 pg:PySem.W.plainGet K C Str.empty=true
 hd:PySem.W.hasDictIn K C=true
 po:PySem.W.plainOver K C=true
 sa:PySem.W.findIn K (.ref C) "__setattr__"=some (some (.builtin "object.__setattr__"))
theorem Cls.get {K:PySem.W.Frag} {C:Addr} (c:Cls K C) (f:Str):PySem.W.plainGet K C f=true:=c.pg
def NoAttr (K:PySem.W.Frag) (C:Addr) (f:Str):Prop:=PySem.W.findIn K (.ref C) f=some none
theorem NoAttr.taker {K:PySem.W.Frag} {C:Addr} {f:Str} (n:NoAttr K C f):PySem.W.takerIn K C f=some none:=by
 unfold PySem.W.takerIn
 rw [show PySem.W.findIn K (.ref C) f=some none from n]
 rfl
structure Meth (K:PySem.W.Frag) (C:Addr) (m:Str) (f:Addr):Prop where
 at_:PySem.W.findIn K (.ref C) m=some (some (.ref f))
 fn:PySem.W.isFn K (.ref f)=true
 kp:PySem.W.keepIn K (.ref f)=true
section
variable {X:Cx} {pins:List (Addr × Obj)} {σ:St} {H:Hp} {s:Shared} {a C dx:Addr} {fs:List (Str × V)} {f:Str} {v:V} {A:Around} {E:Value->Shared->Prop}
theorem getattr_ok {b:Bool} {Q:Value->Shared->Prop} (I:Inv X pins σ H s) (e:H a=some (.ins C dx fs)) (c:Cls X.K C) (n:NoAttr X.K C f) (l:fs.lookup f=some v)
  (h:∀ u s',Inv X pins σ H s'->RelV v u->Q u s'):wpAny (model X.prog X.w) A (getAttr (.ref a) f b) Q E s:=by
 obtain ⟨mA,O,r,_,_,_⟩:=ins_get I.hok e
 obtain ⟨u,hu,ru⟩:=RelO.some_of (v:=v) (o:=mA f) (by rw [<- l];exact r f)
 exact get_map I.kIn O (c.get f) c.hd n hu (handed_of ru) (h u _ (I.tok _) ru)
theorem getmeth_ok {m:Str} {g:Addr} {pl:Sem Bool} {Q:Value × List Value->Shared->Prop} (I:Inv X pins σ H s) (e:H a=some (.ins C dx fs)) (c:Cls X.K C) (k:Meth X.K C m g) (l:fs.lookup m=none)
  (h:Q (.ref g,[.ref a]) s):wpAny (model X.prog X.w) A (getMethod (.ref a) m pl) Q E s:=by
 obtain ⟨mA,O,r,_,_,_⟩:=ins_get I.hok e
 have hn:mA m=none:=RelO.none_of (by rw [<- l];exact r m)
 exact get_meth I.kIn O (c.get m) k.at_ k.fn hn h
theorem setattr_ok {y:V} {u:Value} {Q:Unit->Shared->Prop} (I:Inv X pins σ H s) (e:H a=some (.ins C dx fs)) (c:Cls X.K C) (n:NoAttr X.K C f) (hl:fs.length < 1000) (ry:RelV y u)
  (h:∀ s',Inv X pins σ (upd H a (.ins C dx (putF f y fs))) s'->Q () s'):wpAny (model X.prog X.w) A (setAttr (.ref a) f u) Q E s:=by
 obtain ⟨mA,O,r,wi,_,ho⟩:=ins_get I.hok e
 have hz:(fs.map (·.1)).length <= sizeLine:=by rw [List.length_map,sizeLine_eq];omega
 refine set_map I.kIn O c.sa c.po n.taker c.hd wi hz fun h' O' sb=>h _ ?_
 have hd:∃ o,h'.get? dx=some o:=let ⟨o,_,_,e',_⟩:=O'.ns;⟨o,e'⟩
 refine I.write (x:=a) (e:=dx) (by rw [e];exact True.intro) (.inr ho) (fun b q hb z=>(sb.2 b hb).trans z) hd ?_
 refine ⟨by rw [upd_ne O.ne];exact ho,?_,O.ne,O'.obj,_,O'.ns,fun g=>?_,fun g hg=>?_⟩
 ·have:=length_putF f y fs;omega
 ·show RelO ((putF f y fs).lookup g) (if g=f then some u else mA g)
  rw [lookup_putF]
  by_cases q:g=f
  ·rw [if_pos q,if_pos q];exact ry
  ·rw [if_neg q,if_neg q];exact r g
 ·by_cases q:g=f
  ·rw [q];exact (keys_putF f y fs).1
  ·refine (keys_putF f y fs).2 g (wi g fun z=>hg ?_)
   show (if g=f then some u else mA g)=none
   rw [if_neg q];exact z
theorem Inv.made (I:Inv X pins σ H s):Inv X pins σ (upd (upd H s.heap.objs.size (.own (s.heap.objs.size + 1))) (s.heap.objs.size + 1) (.ins C s.heap.objs.size []))
  { s with heap:=(s.heap.push PySem.W.emptyDict).push (PySem.W.instObj C s.heap.objs.size) }:=by
 have e1:(s.heap.push PySem.W.emptyDict).get? s.heap.objs.size=some PySem.W.emptyDict:=Heap.get?_push_size s.heap rfl
 have e2:((s.heap.push PySem.W.emptyDict).push (PySem.W.instObj C s.heap.objs.size)).get? (s.heap.objs.size + 1)=some (PySem.W.instObj C s.heap.objs.size):=by
  have:=Heap.get?_push_size (s.heap.push PySem.W.emptyDict) (o:=PySem.W.instObj C s.heap.objs.size) rfl
  rwa [Heap.size_push] at this
 have e3:(s.heap.push PySem.W.emptyDict).Ns s.heap.objs.size (fun _=>none):=⟨PySem.W.emptyDict,#[],_,e1,rfl,(fun e he=>absurd he (by simp)),fun _=>rfl⟩
 have I1:=I.laid (a:=s.heap.objs.size) (o:=.own (s.heap.objs.size + 1)) (h':=s.heap.push PySem.W.emptyDict) (t':=s.toks) (fun b u q=>Heap.get?_push_of_some _ q) (Nat.le_refl _) ⟨_,e1⟩
 refine I1.laid (a:=s.heap.objs.size + 1) (o:=.ins C s.heap.objs.size []) (t':=s.toks) (fun b u q=>Heap.get?_push_of_some _ q) (Nat.le_of_eq (Heap.size_push _ _)) ?_
 have ne:s.heap.objs.size ≠ s.heap.objs.size + 1:=Nat.ne_of_lt (Nat.lt_succ_self _)
 refine ⟨by rw [upd_ne ne,upd_same],Nat.zero_le _,ne,e2,fun _=>none,(Heap.Ns1.of_empty e3).at fun o q=>Heap.get?_push_of_some _ q,fun _=>True.intro,fun y hy=>absurd rfl hy⟩
theorem attr_of {prog:Program} {w:World} {env:Env} {e:Expr} {f:Str} {pos:Pos} {s:Shared} {Q:Value->Shared->Prop} (hb:attributeBase e f env (eval e env)=eval e env)
  (h:wpAny (model prog w) A (eval e env) (fun o s₁=>wpAny (model prog w) A (getAttr o f true) Q E s₁) E s):wpAny (model prog w) A (eval (.Attribute e f pos) env) Q E s:=
 Attribute_any_ h (by rw [arm_eval_Attribute,hb])
end
def tFld (K:PySem.W.Frag) (ta:TE) (f:Str):TE:=fun σ H Q=>ta σ H fun x H1=>∃ a C dx fs v,x=.ref a/\H1 a=some (.ins C dx fs)/\Cls K C/\NoAttr K C f/\fs.lookup f=some v/\Q v H1
def sFld (K:PySem.W.Frag) (ta tv:TE) (f:Str):TS:=fun D σ H=>tv σ H fun y H1=>ta σ H1 fun x H2=>∃ a C dx fs,x=.ref a/\H2 a=some (.ins C dx fs)/\Cls K C/\NoAttr K C f/\fs.length < 1000 /\
 D.nx σ (upd H2 a (.ins C dx (putF f y fs)))
section
variable {X:Cx} {o e value:Expr} {f:Str} {pos pos' tpos:Pos} {ta tv:TE}
theorem pe_fld (he:PE X e ta) (hb:attributeBase e f X.env (eval e X.env)=eval e X.env):PE X (.Attribute e f pos) (tFld X.K ta f):=by
 intro pins s σ H Q I h
 refine attr_of hb (thn (he pins s σ H _ I h) fun u s1 hz20=>?_)
 obtain ⟨x,H1,I1,rx,a,C,dx,fs,v,ex,ea,c,n,l,q⟩:=hz20
 subst ex
 obtain rfl:u=Value.ref a:=rx
 exact getattr_ok I1 ea c n l fun u' s2 I2 ru=>⟨v,H1,I2,ru,q⟩
theorem ps_fld (ha:PE X o ta) (hv:PE X value tv) (hs:swapsWith value (some (.Attribute o f pos')) pos.line X.env=pure false):PS X (.Assign [.Attribute o f pos'] value pos) (sFld X.K ta tv f):=by
 intro pins s σ H D I h
 refine plainObj_wpAny_Assign_Attribute (thn (hv pins s σ H _ I h) fun u s1 hz21=>?_) hs
 obtain ⟨y,H1,I1,ry,q⟩:=hz21
 refine thn (ha pins s1 σ H1 _ I1 q) fun ov s2 hz22=>?_
 obtain ⟨x,H2,I2,rx,a,C,dx,fs,ex,ea,c,n,l,q2⟩:=hz22
 subst ex
 obtain rfl:ov=Value.ref a:=rx
 exact setattr_ok I2 ea c n l ry fun s3 I3=>⟨σ,_,I3,q2⟩
end
section
variable {X:Cx} {pins:List (Addr × Obj)} {σ:St} {H:Hp} {s:Shared} {A:Around} {E:Value->Shared->Prop} {Q:Value->Shared->Prop} {c:Value} {b:Bool}
inductive TyOf (K:PySem.W.Frag) (H:Hp):V->Value->Prop where
 | non:TyOf K H .non (.type "NoneType")
 | bl (x:Bool):TyOf K H (.bl x) (.type "bool")
 | int (i:Int):TyOf K H (.int i) (.type "int")
 | str (x:Str):TyOf K H (.str x) (.type "str")
 | flt (x:UInt64):TyOf K H (.flt x) (.type "float")
 | lst {a:Addr} {xs:List V} (e:H a=some (.lst xs)):TyOf K H (.ref a) (.type "list")
 | frz {a:Addr} {o:Obj} {xs:List V} (e:H a=some (.frz o (.lst xs))):TyOf K H (.ref a) (.type "list")
 | tup {a:Addr} {xs:List V} (e:H a=some (.tup xs)):TyOf K H (.ref a) (.type "tuple")
 | dK {a:Addr} {kvs:List (Key × V)} (e:H a=some (.dK kvs)):TyOf K H (.ref a) (.type "dict")
 | dT {a:Addr} {kvs:List (List Key × V)} (e:H a=some (.dT kvs)):TyOf K H (.ref a) (.type "dict")
 | ins {a C dx:Addr} {fs:List (Str × V)} (e:H a=some (.ins C dx fs)) (cl:Cls K C) (ha:PySem.W.findIn K (.ref C) "__class__"=some (some (.builtin "object.__class__")))
   (hn:PySem.W.specialIn K (.builtin "object.__class__") "__get__"=some (some (.builtin "getset_descriptor.__get__"))) (htk:PySem.W.takesIn K (.builtin "object.__class__")=some true)
   (hm:PySem.W.mroIn K C (.type "object")=some true):TyOf K H (.ref a) (.ref C)
theorem isinst_ok {x:V} {u t:Value} (I:Inv X pins σ H s) (rx:RelV x u) (ty:TyOf X.K H x t) (e:PySem.W.kitOne X.K t c=some b) (h:∀ tk,Q (.bool b) { s with toks:=tk }) :
  wpAny (model X.prog X.w) A (call (.builtin "isinstance") [u,c]) Q E s:=by
 cases ty with
 | non=>cases (show u=Value.none from rx);exact PySem.W.kia_one PySem.W.kitx_none I.kIn True.intro e (fun z=>nomatch z) h
 | bl y=>cases (show u=Value.bool y from rx);exact PySem.W.kia_one PySem.W.kitx_bool I.kIn True.intro e (fun z=>nomatch z) h
 | int i=>obtain ⟨t,q⟩:=(show ∃ t,u=Value.int i t from rx);cases q;exact PySem.W.kia_one PySem.W.kitx_int I.kIn True.intro e (fun z=>nomatch z) h
 | str y=>obtain ⟨t,q⟩:=(show ∃ t,u=Value.str y t from rx);cases q;exact PySem.W.kia_one PySem.W.kitx_str I.kIn True.intro e (fun z=>nomatch z) h
 | flt y=>obtain ⟨t,q⟩:=(show ∃ t,u=Value.float y t from rx);cases q;exact PySem.W.kia_one PySem.W.kitx_float I.kIn True.intro e (fun z=>nomatch z) h
 | @lst a xs ea=>
  cases (show u=Value.ref a from rx)
  obtain ⟨_,_,n,_,h1⟩:=(show ObjOk X.prog X.w H s.heap a (.lst xs) from I.hok a _ ea)
  exact PySem.W.kia_one PySem.W.kitx_list I.kIn ⟨_,h1,rfl⟩ e (fun z=>nomatch z) h
 | @frz a ob xs ea=>
  cases (show u=Value.ref a from rx)
  obtain ⟨_,_,_,n,_,h1⟩:=(show ObjOk X.prog X.w H s.heap a (.frz ob (.lst xs)) from I.hok a _ ea)
  exact PySem.W.kia_one PySem.W.kitx_list I.kIn ⟨_,h1,rfl⟩ e (fun z=>nomatch z) h
 | @tup a xs ea=>
  cases (show u=Value.ref a from rx)
  obtain ⟨_,_,_,p⟩:=(show ObjOk X.prog X.w H s.heap a (.tup xs) from I.hok a _ ea)
  obtain ⟨o,h1,h2,_⟩:=p
  exact PySem.W.kia_one PySem.W.kitx_tuple I.kIn ⟨o,h1,h2⟩ e (fun z=>nomatch z) h
 | @dK a kvs ea=>
  cases (show u=Value.ref a from rx)
  obtain ⟨_,_,vs,_,p⟩:=(show ObjOk X.prog X.w H s.heap a (.dK kvs) from I.hok a _ ea)
  obtain ⟨o,es,ep,h1,h2,_⟩:=p
  exact PySem.W.kia_one PySem.W.kitx_dict I.kIn ⟨o,h1,h2.1⟩ e (fun z=>nomatch z) h
 | @dT a kvs ea=>
  cases (show u=Value.ref a from rx)
  obtain ⟨_,_,xs,_,o,es,ep,h1,h2,_⟩:=(show ObjOk X.prog X.w H s.heap a (.dT kvs) from I.hok a _ ea)
  exact PySem.W.kia_one PySem.W.kitx_dict I.kIn ⟨o,h1,h2.1⟩ e (fun z=>nomatch z) h
 | @ins a C dx fs ea cl ha hn htk hm=>
  cases (show u=Value.ref a from rx)
  obtain ⟨mA,O,_⟩:=ins_get I.hok ea
  obtain ⟨od,J,_⟩:=O.look
  exact PySem.W.kia_one (PySem.W.kitx_own (cl.get _) cl.hd ha hn htk hm) I.kIn J e (fun z=>nomatch z) h
end
end L2
namespace L2
open PySem PySem.Spec PyProof.Rows
structure Room (k:Nat) (A:Around):Prop where
 hd:A.handled=none
 dp:A.depth + 3 * k + 5 < recursionLimit
 un:A.units + 16 * k + 200 < cLine
theorem Room.mono {j k:Nat} {A:Around} (r:Room k A) (h:j <= k):Room j A:=⟨r.hd,by have:=r.dp;omega,by have:=r.un;omega⟩
theorem Room.deeper {k:Nat} {A:Around} (r:Room (k + 1) A) (env:Env):Room k (A.deeper env):=
 ⟨r.hd,by have:=r.dp;show A.depth + 1 + 3 * k + 5 < _;omega,by have:=r.un;show A.units + 3 + 16 * k + 200 < _;omega⟩
theorem make_depth {A:Around} {C:Addr} {us:List Value} {kw:List (Str × Value)}:(A.under (.builtin "type.__call__" ⟨.ref C :: us,kw⟩)).depth=A.depth + 1:=by
 first | rfl | simp [Around.under,Code.weight,Code.isCreation,Code.isGuard,Code.isCaller,Code.frames,Code.isFrame,guardIds]
theorem make_units {A:Around} {C:Addr} {us:List Value} {kw:List (Str × Value)}:(A.under (.builtin "type.__call__" ⟨.ref C :: us,kw⟩)).units=A.units + 1:=by
 first | rfl | simp [Around.under,Code.cUnits,Code.frames,Code.isFrame]
theorem Room.make {k:Nat} {A:Around} (r:Room (k + 1) A) (C:Addr) (us:List Value) (kw:List (Str × Value)):Room k (A.under (.builtin "type.__call__" ⟨.ref C :: us,kw⟩)):=
 ⟨r.hd,by have:=r.dp;rw [make_depth];omega,by have:=r.un;rw [make_units];omega⟩
theorem Room.depth {k:Nat} {A:Around} (r:Room k A):A.depth < recursionLimit:=by have:=r.dp;omega
theorem Room.units {k:Nat} {A:Around} (r:Room k A):A.units + 64 < cLine:=by have:=r.un;omega
def tNil:TA:=fun _ H Q=>Q [] H
def tCons (ta:TE) (tr:TA):TA:=fun σ H Q=>ta σ H fun x H1=>tr σ H1 fun xs H2=>Q (x :: xs) H2
section
variable {X:Cx} {e:Expr} {es:List Expr} {te:TE} {t:TA} {pos:Pos}
theorem pa_nil:PA X [] tNil:=fun _ _ _ _ H Q I h=>Calls.spliced_nil ⟨[],H,I,.nil,h⟩
theorem pa_cons (ha:PE X e te) (hr:PA X es t) (hs:starEach (e :: es) X.env=(false,eval e X.env) :: starEach es X.env:=by rfl):PA X (e :: es) (tCons te t):=by
 intro pos pins s σ H Q I h
 rw [hs]
 show wpAny _ _ (spliced ((false,eval e X.env) :: backTo pos (starEach es X.env))) _ _ s
 refine Calls.spliced_cons (thn (ha pins s σ H _ I h) fun u s1 hz23=>?_)
 obtain ⟨x,H1,I1,r1,q1⟩:=hz23
 exact thn (hr pos pins s1 σ H1 _ I1 q1) fun us s2 ⟨xs,H2,I2,r2,q2⟩=>⟨x :: xs,H2,I2,.cons r1 r2,q2⟩
def tTup (t:TA):TE:=fun σ H Q=>t σ H fun xs H1=>xs.length <= sizeLine/\∀ p,H1 p=none->Q (.ref p) (upd H1 p (.tup xs))
def tLst (t:TA):TE:=fun σ H Q=>t σ H fun xs H1=>xs.length <= sizeLine/\∀ p,H1 p=none->Q (.ref p) (upd H1 p (.lst xs))
theorem pe_tup {x1} (h:PA X es t):PE X (.Tuple es x1 pos) (tTup t):=by
 intro pins s σ H Q I hq
 refine wpAny_Tuple_spliced (thn (h pos pins s σ H _ I hq) fun us s1 hz24=>?_)
 obtain ⟨xs,H1,I1,r,z,q⟩:=hz24
 refine ⟨by rw [<- r.length];exact z,?_⟩
 have hf:H1 s1.heap.objs.size=none:=I1.hok.fresh (Nat.le_refl _)
 refine ⟨.ref s1.heap.objs.size,upd H1 s1.heap.objs.size (.tup xs),I1.laid (t':=s1.toks) (fun b u e=>Heap.get?_push_of_some _ e) (Nat.le_refl _) ?_,rfl,q _ hf⟩
 exact ⟨z,us,r,⟨_,Heap.get?_push_size _ rfl,rfl,_,rfl⟩⟩
theorem pe_lst (h:PA X es t):PE X (.List es pos) (tLst t):=by
 intro pins s σ H Q I hq
 refine wpAny_List_spliced (thn (h pos pins s σ H _ I hq) fun us s1 hz25=>?_)
 obtain ⟨xs,H1,I1,r,z,q⟩:=hz25
 refine ⟨by rw [<- r.length];exact z,?_⟩
 have hf:H1 s1.heap.objs.size=none:=I1.hok.fresh (Nat.le_refl _)
 refine ⟨.ref s1.heap.objs.size,upd H1 s1.heap.objs.size (.lst xs),I1.laid (t':=s1.toks) (fun b u e=>Heap.get?_push_of_some _ e) (Nat.le_refl _) ?_,rfl,q _ hf⟩
 exact ⟨z,us,0,r,Heap.get?_push_size _ rfl⟩
end
abbrev Sp:=List V->Hp->VK->XK->Prop
abbrev CXT:=List Env->Hp->Shared->XK->Value->Shared->Prop
structure Env0 (P:Program) (w:World) (K:PySem.W.Frag) (mg:Str->Option Value) (base:Heap) (A:Around) (outer:List Env) (s:Shared) (H:Hp):Prop where
 frames:A.frames=some outer
 mod:Mod K mg base
 bs:∀ b o,base.get? b=some o->s.heap.get? b=some o/\H b=none
 bsz:base.objs.size <= s.heap.objs.size
 funs:s.heap.FunFrames base outer
 frf:∀ b ∈ frs outer,H b=none
 hok:HOk P w H s.heap
 bare:AllBare s.gens
def CE (outer:List Env) (P:Program) (w:World) (H:Hp) (s:Shared) (Q:VK) (u:Value) (s':Shared):Prop:=
 ∃ v H',s'.os=s.os/\AllBare s'.gens/\Un (frs outer) [] H H' s.heap s'.heap/\HOk P w H' s'.heap/\RelV v u/\Q v H'
def CR (CX:CXT) (outer:List Env) (P:Program) (w:World) (H:Hp) (s:Shared) (Q:VK) (E:XK) (r:Result) (s':Shared):Prop:=
 match r with
 | .ok (.ret u)=>CE outer P w H s Q u s'
 | .ok _=>False
 | .error e=>CX outer H s E e s'
structure FnOk (P:Program) (w:World) (K:PySem.W.Frag) (mg:Str->Option Value) (base:Heap) (CX:CXT) (k:Nat) (f:Addr) (fd:FuncData) (ps:List Str) (sp:Sp):Prop where
 len:∀ vs H Q E,sp vs H Q E->vs.length=ps.length
 run:∀ (A:Around) (outer:List Env) (s:Shared) (H:Hp) (args:Args) (us:List Value) (vs:List V) (Q:VK) (E:XK),Room k A->Env0 P w K mg base A outer s H->BindsTo s fd args (ps.zip us)->Vals vs us->sp vs H Q E ->
  codeAny (model P w) A (.call (.ref f) args) (CR CX outer P w H s Q E) s
theorem Env0.make {P:Program} {w:World} {K:PySem.W.Frag} {mg:Str->Option Value} {base:Heap} {A:Around} {outer:List Env} {s:Shared} {H:Hp} (e:Env0 P w K mg base A outer s H) (C:Addr) (us:List Value) (kw:List (Str × Value)) :
  Env0 P w K mg base (A.under (.builtin "type.__call__" ⟨.ref C :: us,kw⟩)) outer s H:=⟨by first | exact e.frames | (simpa [Around.under,Code.envs,Code.isFrame,pushEnvs] using e.frames),e.mod,e.bs,e.bsz,e.funs,e.frf,e.hok,e.bare⟩
section
variable {X:Cx} {pins:List (Addr × Obj)} {σ:St} {H:Hp} {s s':Shared}
theorem Inv.env0 (I:Inv X pins σ H s):Env0 X.prog X.w X.K X.mg X.base X.A X.stack s H:=
 ⟨I.ok.frames,I.ok.mod,I.bs,Nat.le_trans I.ok.bsz I.sz,I.stack,I.stkFree,I.hok,I.bare⟩
theorem Inv.after {Q:VK} {u:Value} (I:Inv X pins σ H s) (h:CE X.stack X.prog X.w H s Q u s'):EP X pins σ Q u s':=by
 obtain ⟨v,H',os,bare,un,hok,r,q⟩:=h
 obtain ⟨hh,g,d,t,os'⟩:=s'
 obtain rfl:os'=s.os:=os
 exact ⟨v,H',I.call (h':=hh) (g':=g) (d':=d) (t':=t) (ch:=[]) un hok bare (fun b z=>absurd z (by simp)),r,q⟩
end
def tCall (sp:Sp) (dvs:List V) (E:XK) (t:TA):TE:=fun σ H Q=>t σ H fun vs H1=>sp (vs ++ dvs) H1 Q E
def tMeth (C:Addr) (m:Str) (sp:Sp) (dvs:List V) (E:XK) (ta:TE) (t:TA):TE:=fun σ H Q=>ta σ H fun x H1=>∃ a dx fs,x=.ref a/\H1 a=some (.ins C dx fs)/\fs.lookup m=none /\
 t σ H1 fun vs H2=>sp (x :: (vs ++ dvs)) H2 Q E
def tMake (C:Addr) (sp:Sp) (dvs:List V) (E:XK) (t:TA):TE:=fun σ H Q=>t σ H fun vs H1=>∀ x dx,H1 x=none->H1 dx=none->dx ≠ x ->
 sp (.ref x :: (vs ++ dvs)) (upd (upd H1 dx (.own x)) x (.ins C dx [])) (fun v H2=>v=.non/\Q (.ref x) H2) E
def Binds (K:PySem.W.Frag) (fd:FuncData) (ps:List Str) (ds:List Value):Prop:=
 ∀ (s:Shared) (us:List Value),K.In s.heap->(us ++ ds).length=ps.length->BindsTo s fd ⟨us,[]⟩ (ps.zip (us ++ ds))
theorem Binds.all {K:PySem.W.Frag} {fd:FuncData} {ps:List Str} (h:∀ us:List Value,us.length=ps.length->bindArgs fd ⟨us,[]⟩=pure (ps.zip us)):Binds K fd ps []:=fun s us _ hl=>by
 rw [List.append_nil] at hl ⊢
 exact .of_eq (h us hl)
def Passes (CX:CXT) (X:Cx) (E:XK):Prop:=∀ (pins:List (Addr × Obj)) (σ:St) (H:Hp) (s:Shared) (e:Value) (s':Shared),Inv X pins σ H s->CX X.stack H s E e s'->X.xe e s'
section
variable {X:Cx} {CX:CXT} {k:Nat} {f C:Addr} {fd:FuncData} {ps:List Str} {sp:Sp} {dvs:List V} {ds:List Value} {E:XK} {x m:Str} {p pos apos:Pos} {e o:Expr} {es:List Expr} {ta:TE} {t:TA}
theorem run_fn {pins:List (Addr × Obj)} {σ:St} {H:Hp} {s:Shared} {Q:VK} {us:List Value} {vs:List V} (F:FnOk X.prog X.w X.K X.mg X.base CX k f fd ps sp) (hr:Room k X.A) (hb:Binds X.K fd ps ds) (hd:Vals dvs ds) (hx:Passes CX X E)
  (I:Inv X pins σ H s) (r:Vals vs us) (h:sp (vs ++ dvs) H Q E):wpAny (model X.prog X.w) X.A (call (.ref f) us) (EP X pins σ Q) X.xe s:=by
 have r2:Vals (vs ++ dvs) (us ++ ds):=r.append hd
 have hl:(us ++ ds).length=ps.length:=by rw [<- r2.length];exact F.len _ _ _ _ h
 refine wpAny_call (codeAny_mono (F.run X.A X.stack s H ⟨us,[]⟩ (us ++ ds) (vs ++ dvs) Q E hr I.env0 (hb s us I.kIn hl) r2 h) fun r s' hq=>?_)
 cases r with
 | error e=>exact hx pins σ H s e s' I hq
 | ok fl=>
  cases fl with
  | ret u=>exact I.after hq
  | next=>exact False.elim hq
  | brk=>exact False.elim hq
  | cont=>exact False.elim hq
theorem pe_call (F:FnOk X.prog X.w X.K X.mg X.base CX k f fd ps sp) (hr:Room k X.A) (hg:Gl X x) (hm:X.mg x=some (.ref f)) (hk:PySem.W.keepIn X.K (.ref f)=true) (hb:Binds X.K fd ps ds) (hd:Vals dvs ds) (hx:Passes CX X E)
  (ha:PA X (e :: es) t) (hdb:(x == ("__debug__" : Str))=false:=by decide) (he:starEach (e :: es) X.env=(false,eval e X.env) :: starEach es X.env:=by rfl) (hpl:(backTo pos (starEach es X.env)).any (·.1)=false:=by rfl) :
  PE X (.Call (.Name x p) (e :: es) [] pos) (tCall sp dvs E t):=by
 intro pins s σ H Q I h
 refine wpAny_Call_Name_kw (ld_glob I hg hm ?_ hdb)
 refine PySem.W.callWith_K (h₀:=X.base) I.ok.mod.kin hk (thn (ha pos pins s σ H _ I h) fun us s1 hz26=>?_) he hpl
 obtain ⟨vs,H1,I1,r,q⟩:=hz26
 refine ⟨I1.kIn,?_⟩
 exact run_fn F hr hb hd hx I1 r q
theorem pe_meth {pl:Sem Bool} (he:PE X o ta) (c:Cls X.K C) (hm:Meth X.K C m f) (F:FnOk X.prog X.w X.K X.mg X.base CX k f fd ps sp) (hr:Room k X.A) (hb:Binds X.K fd ps ds) (hd:Vals dvs ds) (hx:Passes CX X E) (ha:PA X (e :: es) t)
  (hst:starEach (e :: es) X.env=(false,eval e X.env) :: starEach es X.env:=by rfl) (hpl:(backTo pos (starEach es X.env)).any (·.1)=false:=by rfl)
  (ht:eval (.Call (.Attribute o m apos) (e :: es) [] pos) X.env=(do
   let ov <- eval o X.env
   standAt apos.atName
   let (f,first) <- holding [ov] (getMethod ov m pl)
   callWith pos f first (backTo pos (starEach (e :: es) X.env)) (backToKw pos (keywordEach [] X.env))):=by rfl) :
  PE X (.Call (.Attribute o m apos) (e :: es) [] pos) (tMeth C m sp dvs E ta t):=by
 intro pins s σ H Q I h
 refine PySem.W.methodCall_KW (pl:=pl) (thn (he pins s σ H _ I h) fun u s1 hz27=>?_) ht
 obtain ⟨x,H1,I1,rx,a,dx,fs,ex,ea,l,q⟩:=hz27
 subst ex
 obtain rfl:u=Value.ref a:=rx
 refine getmeth_ok I1 ea c hm l ?_
 refine PySem.W.callWith_K (first:=[.ref a]) (h₀:=X.base) I.ok.mod.kin hm.kp (thn (ha pos pins s1 σ H1 _ I1 q) fun us s2 hz28=>?_) hst hpl
 obtain ⟨vs,H2,I2,r,q2⟩:=hz28
 refine ⟨I2.kIn,?_⟩
 exact run_fn (us:=.ref a :: us) (vs:=.ref a :: vs) F hr hb hd hx I2 (.cons rfl r) q2
theorem pe_meth0 {pl:Sem Bool} (he:PE X o ta) (c:Cls X.K C) (hm:Meth X.K C m f) (F:FnOk X.prog X.w X.K X.mg X.base CX k f fd ps sp) (hr:Room k X.A) (hb:Binds X.K fd ps ds) (hd:Vals dvs ds) (hx:Passes CX X E)
  (ht:eval (.Call (.Attribute o m apos) [] [] pos) X.env=(do
   let ov <- eval o X.env
   standAt apos.atName
   let (f,first) <- holding [ov] (getMethod ov m pl)
   callWith pos f first (backTo pos (starEach [] X.env)) (backToKw pos (keywordEach [] X.env))):=by rfl) :
  PE X (.Call (.Attribute o m apos) [] [] pos) (tMeth C m sp dvs E ta tNil):=by
 intro pins s σ H Q I h
 refine PySem.W.methodCall_KW (pl:=pl) (thn (he pins s σ H _ I h) fun u s1 hz29=>?_) ht
 obtain ⟨x,H1,I1,rx,a,dx,fs,ex,ea,l,q⟩:=hz29
 subst ex
 obtain rfl:u=Value.ref a:=rx
 refine getmeth_ok I1 ea c hm l ?_
 exact PySem.W.callWith_K0 (first:=[.ref a]) I1.kIn hm.kp (run_fn (us:=[.ref a]) (vs:=[.ref a]) F hr hb hd hx I1 (.cons rfl .nil) q)
structure Mk (K:PySem.W.Frag) (C f:Addr):Prop where
 makes:PySem.W.makesIn K C=true
 init:PySem.W.findIn K (.ref C) "__init__"=some (some (.ref f))
 fn:PySem.W.isFn K (.ref f)=true
 kp:PySem.W.keepIn K (.ref C)=true
theorem run_make {pins:List (Addr × Obj)} {σ:St} {H:Hp} {s:Shared} {Q:VK} {us:List Value} {vs:List V} (M:Mk X.K C f) (F:FnOk X.prog X.w X.K X.mg X.base CX k f fd ps sp) (hr:Room (k + 1) X.A) (hb:Binds X.K fd ps ds) (hd:Vals dvs ds)
  (hx:Passes CX X E) (I:Inv X pins σ H s) (r:Vals vs us)
  (h:∀ x dx,H x=none->H dx=none->dx ≠ x->sp (.ref x :: (vs ++ dvs)) (upd (upd H dx (.own x)) x (.ins C dx [])) (fun v H2=>v=.non/\Q (.ref x) H2) E) :
  wpAny (model X.prog X.w) X.A (call (.ref C) us) (EP X pins σ Q) X.xe s:=by
 have hq:=h (s.heap.objs.size + 1) s.heap.objs.size (I.hok.fresh (Nat.le_succ _)) (I.hok.fresh (Nat.le_refl _)) (Nat.ne_of_lt (Nat.lt_succ_self _))
 have I2:=Inv.made (C:=C) I
 have r2:Vals (V.ref (s.heap.objs.size + 1) :: (vs ++ dvs)) (Value.ref (s.heap.objs.size + 1) :: (us ++ ds)):=.cons rfl (r.append hd)
 have hl:(Value.ref (s.heap.objs.size + 1) :: us ++ ds).length=ps.length:=by
  have e:=r2.length
  rw [F.len _ _ _ _ hq] at e
  exact e.symm
 refine wpAny_call (make_map (f:=f) I.kIn M.makes M.init (beq_iff_eq.mp M.fn) (codeAny_mono (F.run _ X.stack _ _ ⟨Value.ref (s.heap.objs.size + 1) :: us,[]⟩ (Value.ref (s.heap.objs.size + 1) :: (us ++ ds)) _ _ E (hr.make C us [])
  (I2.env0.make C us []) (hb _ (Value.ref (s.heap.objs.size + 1) :: us) I2.kIn hl) r2 hq) fun r s' hq'=>?_))
 cases r with
 | error e=>exact hx pins σ _ _ e s' I2 hq'
 | ok fl=>
  cases fl with
  | ret u=>
   obtain ⟨v,H',I3,rv,ev,q3⟩:=I2.after hq'
   subst ev
   exact ⟨rv,⟨V.ref (s.heap.objs.size + 1),H',I3,rfl,q3⟩⟩
  | next=>exact False.elim hq'
  | brk=>exact False.elim hq'
  | cont=>exact False.elim hq'
theorem pe_make (M:Mk X.K C f) (F:FnOk X.prog X.w X.K X.mg X.base CX k f fd ps sp) (hr:Room (k + 1) X.A) (hg:Gl X x) (hm:X.mg x=some (.ref C)) (hb:Binds X.K fd ps ds) (hd:Vals dvs ds) (hx:Passes CX X E)
  (ha:PA X (e :: es) t) (hdb:(x == ("__debug__" : Str))=false:=by decide) (he:starEach (e :: es) X.env=(false,eval e X.env) :: starEach es X.env:=by rfl) (hpl:(backTo pos (starEach es X.env)).any (·.1)=false:=by rfl) :
  PE X (.Call (.Name x p) (e :: es) [] pos) (tMake C sp dvs E t):=by
 intro pins s σ H Q I h
 refine wpAny_Call_Name_kw (ld_glob I hg hm ?_ hdb)
 refine PySem.W.callWith_K (h₀:=X.base) I.ok.mod.kin M.kp (thn (ha pos pins s σ H _ I h) fun us s1 hz30=>?_) he hpl
 obtain ⟨vs,H1,I1,r,q⟩:=hz30
 refine ⟨I1.kIn,?_⟩
 exact run_make M F hr hb hd hx I1 r q
end
section
variable {X:Cx} {CX:CXT} {k:Nat} {f C:Addr} {fd:FuncData} {ps ks:List Str} {sp:Sp} {E:XK} {x m:Str} {p pos apos kpos:Pos} {e o:Expr} {es:List Expr} {kws:List Keyword} {te ta:TE} {t tk:TA} {nm:Option Str}
variable {g:List Value->List Value->List Value} {gV:List V->List V->List V}
end
structure FnScope (N P:List Str) (sc:Scope):Prop where
 kind:sc.kind=.function
 co:sc.isCoroutine=false
 gen:sc.isGenerator=false
 nd:N.Nodup
 pre:N.take P.length=P
 par:∀ x ∈ P,sc.names.lookup x=some .local \/ sc.names.lookup x=some .cell
 nofree:∀ y ∈ sc.names,y.2 ≠ .free
theorem bindL_out {kindOf:Str->Option NameKind} {x:Str}:∀ {binds:List (Str × Value)} {m:Str->Option Value},(∀ v,(x,v) ∉ binds)->bindL kindOf binds m x=m x
 | [],_,_=>rfl
 | (n,v) :: r,m,h=>by
  unfold bindL
  rw [bindL_out fun w hw=>h w (List.mem_cons_of_mem _ hw)]
  split
  ·have:x ≠ n:=by rintro rfl;exact h v List.mem_cons_self
   simp [this]
  ·rfl
theorem bindC_out {kindOf:Str->Option NameKind} {x:Str}:∀ {binds:List (Str × Value)} {m:Str->Option Value},(∀ v,(x,v) ∉ binds)->bindC kindOf binds m x=m x
 | [],_,_=>rfl
 | (n,v) :: r,m,h=>by
  unfold bindC
  rw [bindC_out fun w hw=>h w (List.mem_cons_of_mem _ hw)]
  split
  ·rfl
  ·have:x ≠ n:=by rintro rfl;exact h v List.mem_cons_self
   simp [this]
theorem bindL_get {kindOf:Str->Option NameKind} {x:Str} {v:Value}:∀ {P:List Str} {vs:List Value} {i:Nat} {m:Str->Option Value},P.Nodup->P[i]?=some x->vs[i]?=some v->kindOf x=some .local ->
  bindL kindOf (P.zip vs) m x=some v
 | [],_,_,_,_,h,_,_=>by simp at h
 | _ :: _,[],_,_,_,_,h,_=>by simp at h
 | p :: P,w :: vs,0,m,nd,h1,h2,hk=>by
  simp at h1 h2;subst h1;subst h2
  show bindL kindOf ((p,w) :: P.zip vs) m p=_
  unfold bindL
  rw [bindL_out fun v hv=>(List.nodup_cons.mp nd).1 (List.of_mem_zip hv).1,if_pos hk]
  simp
 | p :: P,w :: vs,i + 1,m,nd,h1,h2,hk=>by
  show bindL kindOf ((p,w) :: P.zip vs) m x=_
  unfold bindL
  exact bindL_get (i:=i) (List.nodup_cons.mp nd).2 (by simpa using h1) (by simpa using h2) hk
theorem bindC_get {kindOf:Str->Option NameKind} {x:Str} {v:Value}:∀ {P:List Str} {vs:List Value} {i:Nat} {m:Str->Option Value},P.Nodup->P[i]?=some x->vs[i]?=some v->kindOf x ≠ some .local ->
  bindC kindOf (P.zip vs) m x=some v
 | [],_,_,_,_,h,_,_=>by simp at h
 | _ :: _,[],_,_,_,_,h,_=>by simp at h
 | p :: P,w :: vs,0,m,nd,h1,h2,hk=>by
  simp at h1 h2;subst h1;subst h2
  show bindC kindOf ((p,w) :: P.zip vs) m p=_
  unfold bindC
  rw [bindC_out fun v hv=>(List.nodup_cons.mp nd).1 (List.of_mem_zip hv).1,if_neg hk]
  simp
 | p :: P,w :: vs,i + 1,m,nd,h1,h2,hk=>by
  show bindC kindOf ((p,w) :: P.zip vs) m x=_
  unfold bindC
  exact bindC_get (i:=i) (List.nodup_cons.mp nd).2 (by simpa using h1) (by simpa using h2) hk
def start (N:List Str) (vs:List V):St:=vs.map some ++ List.replicate (N.length - vs.length) none
def cxOf (CX:CXT) (P:Program) (w:World) (K:PySem.W.Frag) (mg:Str->Option Value) (base:Heap) (N:List Str) (qual:Str) (scope:Scope) (f:Addr) (cd:Value) (A:Around) (outer:List Env) (s:Shared) (H:Hp) (E:XK):Cx where
 prog:=P
 w:=w
 K:=K
 mg:=mg
 base:=base
 A:=A.deeper (envOfC qual scope s.heap.objs.size f cd)
 N:=N
 s₀:=s
 H₀:=H
 env:=envOfC qual scope s.heap.objs.size f cd
 outer:=outer
 stack:=envOfC qual scope s.heap.objs.size f cd :: outer
 ex:=[]
 calm:=true
 fn:=fun _=>true
 pn:=[]
 xe:=fun e s'=>wpAny (model P w) (A.deeper (envOfC qual scope s.heap.objs.size f cd)) (leaving (envOfC qual scope s.heap.objs.size f cd) e) (fun _ s''=>CX outer H s E e s'') (fun e' s''=>CX outer H s E e' s'') s'
theorem cell_has {sc:Scope} {n:Nat} {x:Str} (h:sc.names.lookup x=some .cell):∃ c,(cellsFrom n sc.names []).lookup x=some c:=by
 have q:=PySem.W.cellsFrom_some sc.names n [] (.inl h)
 exact Option.isSome_iff_exists.mp q
theorem inv_start {CX:CXT} {P:Program} {w:World} {K:PySem.W.Frag} {mg:Str->Option Value} {base:Heap} {N ps:List Str} {qual:Str} {scope:Scope} {f:Addr} {cd:Value} {A:Around} {outer:List Env} {s s1:Shared} {H:Hp} {E:XK} {us:List Value} {vs:List V}
  (S:FnScope N ps scope) (hd:A.handled=none) (e0:Env0 P w K mg base A outer s H) (hl:vs.length=ps.length) (r:Vals vs us)
  (x:InCallC s s.heap.objs.size (bindL (envOfC qual scope s.heap.objs.size f cd).kindOf (ps.zip us) fun _=>none) (cellsFrom (s.heap.objs.size + 1) scope.names []) (bindC (envOfC qual scope s.heap.objs.size f cd).kindOf (ps.zip us) fun _=>none) s1) :
  Inv (cxOf CX P w K mg base N qual scope f cd A outer s H E) [] (start N vs) H s1:=by
 have hpl:ps.length <= N.length:=by have:=congrArg List.length S.pre;rw [List.length_take] at this;omega
 obtain ⟨h1,tk,rfl,hk⟩:=x.done
 have noA:∀ b:Addr,b ∉ (cxOf CX P w K mg base N qual scope f cd A outer s H E).ex:=fun b z=>absurd (show b ∈ ([]:List Addr) from z) (by simp)
 refine ⟨⟨e0.mod,S.kind,rfl,rfl,Nat.le_refl _,fun y z c h1 h2=>?_,fun y hy=>?_,fun y c _ h=>?_,fun _=>hd,Around.frames_deeper e0.frames,.inr ⟨rfl,rfl⟩,fun b z=>absurd z (noA b),e0.bs,e0.bsz,fun b _ _=>noA b,fun b z=>absurd z (noA b),e0.funs,e0.frf⟩,
  rfl,e0.bare,Un.kept hk,⟨_,x.toInCall.ns,fun i y v h1 h2 h3=>?_⟩,fun y c h=>⟨_,x.cell y c h⟩,e0.hok.fresh (Nat.le_refl _),fun y c h=>?_,fun p hp=>absurd (show p ∈ ([]:List (Addr × Obj)) from hp) (by simp),e0.hok.kept hk,?_⟩
 ·exact name_of_addr x.apart (PySem.mem_of_lookup h1) (PySem.mem_of_lookup h2)
 ·have hy:scope.names.lookup y=some .cell \/ scope.names.lookup y=some .free:=hy
  rcases hy with hy | hy
  ·exact cell_has hy
  ·exact absurd rfl (S.nofree _ (PySem.mem_of_lookup hy))
 ·exact Nat.le_of_lt (x.above y c (PySem.mem_of_lookup h))
 ·have hi:i < vs.length:=by
   unfold start at h2
   by_cases hi:i < vs.length
   ·exact hi
   ·rw [List.getElem?_append_right (by simpa using hi)] at h2
    rw [List.getElem?_replicate] at h2
    split at h2 <;> cases h2
  have ha:vs[i]?=some v:=by
   unfold start at h2
   rw [List.getElem?_append_left (by simpa using hi),List.getElem?_map] at h2
   cases e:vs[i]? with
   | none=>rw [e] at h2;cases h2
   | some a=>rw [e] at h2;cases h2;rfl
  obtain ⟨u,hu,rv⟩:=r.get ha
  have hp:ps[i]?=some y:=by
   rw [<- S.pre,List.getElem?_take_of_lt (by omega)];exact h1
  have ndP:ps.Nodup:=by rw [<- S.pre];exact S.nd.sublist (List.take_sublist _ _)
  refine ⟨u,rv,?_⟩
  rcases S.par y (List.mem_of_getElem? hp) with k | k
  ·exact .inl ⟨k,bindL_get ndP hp hu k⟩
  ·obtain ⟨c,e⟩:=cell_has (n:=s.heap.objs.size + 1) k
   refine .inr ⟨.inl k,c,e,?_⟩
   have q:=x.cell y c e
   rw [bindC_get ndP hp hu (by show scope.names.lookup y ≠ _;rw [k];decide)] at q
   exact q
 ·exact e0.hok.fresh (Nat.le_of_lt (x.above y c (PySem.mem_of_lookup h)))
 ·unfold start
  show _=N.length
  rw [List.length_append,List.length_map,List.length_replicate]
  omega
theorem fn_of {CX:CXT} {P:Program} {w:World} {K:PySem.W.Frag} {mg:Str->Option Value} {base:Heap} {k:Nat} {f:Addr} {name qual:Str} {params:Arguments} {body:List Stmt} {scope:Scope} {dV kV doc pm cdv ct oc:Value} {an od:Option Addr}
  {osl:Array (Option Value)} {N ps:List Str} {sp:Sp} (lk:K.lookup f=some ⟨oc,od,.func (PySem.W.fnOf name qual params body scope dV kV doc pm an cdv ct),osl⟩) (hcd:PySem.W.codeIn K cdv qual=true) (S:FnScope N ps scope)
  (len:∀ vs H Q E,sp vs H Q E->vs.length=ps.length)
  (hbody:∀ (A:Around) (outer:List Env) (s:Shared) (H:Hp) (vs:List V) (Q:VK) (E:XK),Room k (A.deeper (envOfC qual scope s.heap.objs.size f cdv))->sp vs H Q E ->
   ∃ t,PSs (cxOf CX P w K mg base N qual scope f cdv A outer s H E) body t/\t { nx:=fun _ H'=>Q .non H',rt:=Q } (start N vs) H) :
  FnOk P w K mg base CX (k + 1) f (PySem.W.fnOf name qual params body scope dV kV doc pm an cdv ct) ps sp:=by
 refine ⟨len,fun A outer s H args us vs Q E hr e0 hb r hsp=>?_⟩
 have hl:=len _ _ _ _ hsp
 have KX:K.In s.heap:=e0.mod.kin.keeps fun b o e=>(e0.bs b o e).1
 have lim:s.heap.NoLimit:=e0.mod.nolimit.keeps fun b o e=>(e0.bs b o e).1
 have hkind:∀ y ∈ ps.zip us,scope.names.lookup y.1=some .local \/ (scope.names.lookup y.1=some .cell/\((cellsFrom (s.heap.objs.size + 1) scope.names []).lookup y.1).isSome=true):=fun ⟨n,v⟩ hy=>by
  rcases S.par n (List.of_mem_zip hy).1 with q | q
  ·exact .inl q
  ·exact .inr ⟨q,PySem.W.cellsFrom_some _ _ _ (.inl q)⟩
 refine codeAny_call_function hr.depth (KX _ _ lk) rfl S.co S.gen rfl (PySem.W.codeRec_of KX hcd) (hb _ _ _ _ ?_)
 refine wpAny_newFunctionEnv_cells S.kind hkind fun env he s1 x=>?_
 subst he
 refine ⟨lim.keeps x.toInCall.keep,codeAny_func ?_⟩
 obtain ⟨t,ht,hq⟩:=hbody A outer s H vs Q E (hr.deeper _) hsp
 have I:Inv (cxOf CX P w K mg base N qual scope f cdv A outer s H E) [] (start N vs) H s1:=inv_start S hr.hd e0 hl r x
 refine wpAny_mono (ht [] s1 (start N vs) H _ I hq) (fun fl s' hs=>?_) fun e s' hs=>hs
 have fin:∀ {σ':St} {H':Hp} {v:V} {u:Value},Inv (cxOf CX P w K mg base N qual scope f cdv A outer s H E) [] σ' H' s'->RelV v u->Q v H'->CE outer P w H s Q u s':=
  fun {σ' H' v u} J rv q=>⟨v,H',J.os,J.bare,J.base,J.hok,rv,q⟩
 cases fl with
 | ret u=>
  obtain ⟨v,σ',H',J,rv,q⟩:=hs
  exact fin J rv q
 | next=>
  obtain ⟨σ',H',J,q⟩:=hs
  exact fin (v:=V.non) (u:=Value.none) J rfl q
 | brk=>
  obtain ⟨_,_,_,q⟩:=hs
  exact False.elim q
 | cont=>
  obtain ⟨_,_,_,q⟩:=hs
  exact False.elim q
end L2
namespace L2
open PySem PySem.Spec PyProof.Rows
section
variable {X:Cx} {x:Str} {p pos:Pos} {e:Expr} {es:List Expr} {t:TA} {id T:String} {r:List V->Hp->VK->Prop}
def tCB (r:List V->Hp->VK->Prop) (t:TA):TE:=fun σ H Q=>t σ H fun vs H1=>r vs H1 Q
theorem pe_callB (hc:CallR X (.builtin id) r) (hg:Gl X x) (hm:X.mg x=none) (hv:bootBuiltins x=some (.builtin id)) (ha:PA X (e :: es) t) (hn:x ≠ "__name__":=by decide) (hdb:(x == ("__debug__" : Str))=false:=by decide)
  (he:starEach (e :: es) X.env=(false,eval e X.env) :: starEach es X.env:=by rfl) (hpl:(backTo pos (starEach es X.env)).any (·.1)=false:=by rfl):PE X (.Call (.Name x p) (e :: es) [] pos) (tCB r t):=by
 intro pins s σ H Q I h
 refine wpAny_Call_Name_kw (ld_blt I hg hm hv ?_ hn hdb)
 exact PyProof.Rows.callWith_builtin1 (thn (ha pos pins s σ H _ I h) fun us s1 ⟨vs,H1,I1,r1,q1⟩=>hc pins s1 σ H1 vs us Q I1 r1 q1) he hpl
theorem pe_callTy (hc:CallR X (.type T) r) (hg:Gl X x) (hm:X.mg x=none) (hv:bootBuiltins x=some (.type T)) (ha:PA X (e :: es) t) (hn:x ≠ "__name__":=by decide) (hdb:(x == ("__debug__" : Str))=false:=by decide)
  (he:starEach (e :: es) X.env=(false,eval e X.env) :: starEach es X.env:=by rfl) (hpl:(backTo pos (starEach es X.env)).any (·.1)=false:=by rfl):PE X (.Call (.Name x p) (e :: es) [] pos) (tCB r t):=by
 intro pins s σ H Q I h
 refine wpAny_Call_Name_kw (ld_blt I hg hm hv ?_ hn hdb)
 exact PyProof.Rows.callWith_type1 (thn (ha pos pins s σ H _ I h) fun us s1 ⟨vs,H1,I1,r1,q1⟩=>hc pins s1 σ H1 vs us Q I1 r1 q1) he hpl
end
end L2
namespace HT
open PySem PyProof.Rows
section
open PySem.SeqAt
open PySem.AutoSeq1 (wpAny_loadPart')
open PySem.MeetsSeq PySem.MeetsSeq2 PySem.MeetsSeq3
end
section
variable {prog:Program} {w:World} {A:Around} {E:Value->Shared->Prop} {s:Shared}
def sIx (n d:Nat):Option Int->Nat
 | none=>d
 | some v=>if v < 0 then (v + (n:Int)).toNat else min v.toNat n
theorem sIx_none (n d:Nat):sIx n d none=d:=rfl
theorem sIx_nat (n d k:Nat):sIx n d (some (k:Int))=min k n:=by
 show (if (k:Int) < 0 then ((k:Int) + (n:Int)).toNat else min (k:Int).toNat n)=min k n
 rw [if_neg (by omega),Int.toNat_natCast]
theorem sIx_le (n d:Nat) (hd:d <= n) (o:Option Int):sIx n d o <= n:=by
 cases o with
 | none=>exact hd
 | some v=>
  show (if v < 0 then (v + (n:Int)).toNat else min v.toNat n) <= n
  by_cases hv:v < 0
  ·rw [if_pos hv];omega
  ·rw [if_neg hv];exact Nat.min_le_right _ _
theorem clip_eq (v:Int) (n d:Nat):(if v < 0 then max (v + (n:Int)) 0 else min v (n:Int))=((sIx n d (some v):Nat):Int):=by
 show (if v < 0 then max (v + (n:Int)) 0 else min v (n:Int))=(((if v < 0 then (v + (n:Int)).toNat else min v.toNat n):Nat):Int)
 by_cases hv:v < 0
 ·simp only [if_pos hv];omega
 ·simp only [if_neg hv];omega
theorem adjust_gen (lo hi:Option Int) (n:Nat):Builtin.Slice.sliceAdjust lo hi 1 (n:Int)=(((sIx n 0 lo:Nat):Int),((sIx n n hi:Nat):Int)):=by
 have h1:¬ ((1:Int) < 0):=by omega
 unfold Builtin.Slice.sliceAdjust
 simp only [h1,if_false]
 refine Prod.ext ?_ ?_
 ·cases lo with
  | none=>rfl
  | some v=>exact clip_eq v n 0
 ·cases hi with
  | none=>rfl
  | some v=>exact clip_eq v n n
theorem places_gen (i j:Nat):Builtin.Slice.slicePlaces (i:Int) (j:Int) 1=j - i:=by
 unfold Builtin.Slice.slicePlaces
 have h1:(1:Int) > 0:=by omega
 simp only [h1,if_true,Int.ediv_one]
 split <;> omega
theorem slicePart_ {v:Value} {o:Option Int} {Q:Option Int->Shared->Prop} (p:IsPart v o) (h:Q o s):wpAny (model prog w) A (Builtin.Slice.slicePartIndex v) Q E s:=by
 cases p with
 | none=>exact slicePart_none h
 | int i t=>exact slicePart_int h
theorem sliceApplied_gen {sl:Addr} {vl vu:Value} {lo hi:Option Int} {n:Nat} {Q:Int × Int × Nat->Shared->Prop} (hs:s.heap.IsSliceOf sl vl vu .none) (pl:IsPart vl lo) (pu:IsPart vu hi)
  (h:Q (((sIx n 0 lo:Nat):Int),1,sIx n n hi - sIx n 0 lo) s):wpAny (model prog w) A (Builtin.Slice.sliceApplied (.ref sl) (pure (n:Int))) Q E s:=by
 obtain ⟨os,hos,hcs,hds⟩:=id hs
 unfold Builtin.Slice.sliceApplied Builtin.Slice.sliceFields
 refine wpAny_bind (wpAny_bind (wpAny_field hos hds (x:=vl) rfl (wpAny_bind (wpAny_field hos hds (x:=vu) rfl (wpAny_bind (wpAny_field hos hds (x:=.none) rfl (wpAny_pure ?_)))))))
 refine wpAny_bind (slicePart_none ?_)
 show wpAny _ _ (if ((1:Int) == 0)=true then _ else _) _ _ s
 rw [if_neg (by decide)]
 refine wpAny_bind (slicePart_ pl (wpAny_bind (slicePart_ pu (wpAny_bind (wpAny_pure ?_)))))
 show wpAny _ _ (match Builtin.Slice.sliceAdjust lo hi 1 (n:Int) with | (lo,hi)=>pure (lo,(1:Int),Builtin.Slice.slicePlaces lo hi 1)) _ _ s
 rw [adjust_gen lo hi n]
 show wpAny _ _ (pure (((sIx n 0 lo:Nat):Int),(1:Int),Builtin.Slice.slicePlaces ((sIx n 0 lo:Nat):Int) ((sIx n n hi:Nat):Int) 1)) _ _ s
 rw [places_gen]
 exact wpAny_pure h
theorem pick_gen (xs:Array Value) (i k:Nat):((List.range k).filterMap fun (m:Nat)=>xs[((i:Int) + (m:Int) * 1).toNat]?).toArray=((xs.toList.drop i).take k).toArray:=by
 have e:(fun (m:Nat)=>xs[((i:Int) + (m:Int) * 1).toNat]?)=fun m=>xs[i + m]?:=by
  funext m
  have:((i:Int) + (m:Int) * 1).toNat=i + m:=by omega
  rw [this]
 rw [e]
 have:=pick_run xs i k
 rw [List.filterMap_map] at this
 have e2:((fun x=>xs[x]?) ∘ fun x=>i + x)=fun m=>xs[i + m]?:=rfl
 rw [e2] at this
 rw [this]
theorem getItem_tuple_cut {t sl:Addr} {items:Array Value} {vl vu:Value} {lo hi:Option Int} {Q:Value->Shared->Prop} (ht:IsTup s.heap t items) (hs:s.heap.IsSliceOf sl vl vu .none) (pl:IsPart vl lo) (pu:IsPart vu hi)
  (hw:¬ (sIx items.size 0 lo=0/\sIx items.size items.size hi=items.size))
  (h:Q (.ref s.heap.objs.size) { s with heap:=s.heap.push { cls:=.type "tuple",data:=.seq ((items.toList.drop (sIx items.size 0 lo)).take (sIx items.size items.size hi - sIx items.size 0 lo)).toArray } })
  (hsz:items.size <= sizeLine):wpAny (model prog w) A (getItem (.ref t) (.ref sl)) Q E s:=by
 have htake:sizeOk (.seq ((items.toList.drop (sIx items.size 0 lo)).take (sIx items.size items.size hi - sIx items.size 0 lo)).toArray):=by
  show ((items.toList.drop (sIx items.size 0 lo)).take (sIx items.size items.size hi - sIx items.size 0 lo)).toArray.size <= sizeLine
  rw [List.size_toArray,List.length_take,List.length_drop,Array.length_toList]
  omega
 have hj:sIx items.size items.size hi <= items.size:=sIx_le _ _ (Nat.le_refl _) hi
 obtain ⟨os,hos,hcs,hds⟩:=id hs
 have hTs:s.TypeIs (.ref sl) "slice":=⟨os,hos,hcs⟩
 unfold getItem
 try with_reducible refine wpAny_holding ?_
 first | refine wpAny_bind (wpAny_pure ?_) | skip
 refine wpAny_bind (wpAny_sequenceKey ht.typeIs (by decide) ?_)
 refine wpAny_bind (wpAny_callSpecial?_slot (name:=Str.ofString "__getitem__") ht.typeIs PyProof.Rows.slot_tuple_getitem
  (wpAny_call_entry PyProof.Rows.slot_tuple_getitem ht.typeIs entry_tuple_getitem ?_ (args_tuple_getitem _ _)))
 show wpAny _ _ (Builtin.Tuple.tupleItemsOf (.ref t) >>= _) _ _ s
 refine wpAny_bind (tupleItemsOf_ ht ?_)
 refine wpAny_bind (wpAny_typeOf hTs ?_)
 rw [if_pos (by decide)]
 refine wpAny_bind (sliceApplied_gen hs pl pu ?_)
 have hno:¬ ((((sIx items.size 0 lo:Nat):Int) == 0 && (1:Int) == 1 && (sIx items.size items.size hi - sIx items.size 0 lo) == items.size)=true):=by
  intro q
  rw [Bool.and_eq_true,Bool.and_eq_true] at q
  have q1:((sIx items.size 0 lo:Nat):Int)=0:=eq_of_beq q.1.1
  have q2:sIx items.size items.size hi - sIx items.size 0 lo=items.size:=eq_of_beq q.2
  exact hw ⟨by omega,by omega⟩
 show wpAny _ _ (if (((sIx items.size 0 lo:Nat):Int) == 0 && (1:Int) == 1 && (sIx items.size items.size hi - sIx items.size 0 lo) == items.size)=true then _ else _) _ _ s
 rw [if_neg hno,pick_gen]
 first
  | exact wpAny_bind (m:=Builtin.Tuple.tupleExact _) (wpAny_newObj_type (wpAny_pure ⟨_,rfl,wpAny_pure h⟩) htake)
  | exact wpAny_bind (m:=Builtin.Tuple.tupleExact _) (wpAny_newObj_type (wpAny_bind (wpAny_pure (wpAny_pure ⟨_,rfl,wpAny_pure h⟩))) htake)
  | exact wpAny_bind (wpAny_bind (m:=Builtin.Tuple.tupleExact _) (wpAny_newObj_type (wpAny_pure (wpAny_pure ⟨_,rfl,wpAny_pure h⟩)) htake))
  | exact wpAny_bind (wpAny_bind (m:=Builtin.Tuple.tupleExact _) (wpAny_newObj_type (wpAny_pure ⟨_,rfl,wpAny_pure h⟩) htake))
end
end HT
namespace L2
open PySem PySem.Spec PyProof.Rows
abbrev TO:=St->Hp->(Option Int->Hp->Prop)->Prop
def PO (X:Cx) (e:Option Expr) (t:TO):Prop:=
 ∀ (pins:List (Addr × Obj)) (s:Shared) (σ:St) (H:Hp) (Q:Option Int->Hp->Prop),Inv X pins σ H s->t σ H Q ->
  wpAny (model X.prog X.w) X.A (evalPart e X.env) (fun u s'=>∃ o H',Inv X pins σ H' s'/\IsPart u o/\Q o H') X.xe s
def tNoPart:TO:=fun _ H Q=>Q none H
def tPart (t:TE):TO:=fun σ H Q=>t σ H fun x H1=>∃ i,x=.int i/\Q (some i) H1
section
variable {X:Cx} {e:Expr} {te:TE} {lo hi:Option Expr} {tl th:TO} {pos p2:Pos}
theorem po_none:PO X none tNoPart:=by
 intro pins s σ H Q I h
 rw [evalPart_none]
 exact wpAny_pure ⟨none,H,I,.none,h⟩
theorem po_some (h:PE X e te):PO X (some e) (tPart te):=by
 intro pins s σ H Q I hw
 rw [evalPart_some]
 refine thn (h pins s σ H _ I hw) fun u s1 hz31=>?_
 obtain ⟨x,H1,I1,r1,q1⟩:=hz31
 obtain ⟨i,rfl,q⟩:=q1
 obtain ⟨t,rfl⟩:=r1
 exact ⟨some i,H1,I1,.int i t,q⟩
def SlR (X:Cx) (r:V->Option Int->Option Int->Hp->VK->Prop):Prop:=
 ∀ (pins:List (Addr × Obj)) (s:Shared) (σ:St) (H:Hp) (x:V) (v vl vu:Value) (lo hi:Option Int) (sl:Addr) (Q:VK),Inv X pins σ H s->RelV x v->s.heap.IsSliceOf sl vl vu .none->IsPart vl lo->IsPart vu hi->r x lo hi H Q ->
  ∃ T id,typeLookup (.type T) "__getitem__"=pure (some (.builtin id))/\s.TypeIs v T/\wpAny (model X.prog X.w) X.A (getItem v (.ref sl)) (EP X pins σ Q) X.xe s
def tSl (r:V->Option Int->Option Int->Hp->VK->Prop) (te:TE) (tl th:TO):TE:=fun σ H Q=>te σ H fun x H1=>tl σ H1 fun l H2=>th σ H2 fun u H3=>r x l u H3 Q
theorem pe_slice {r:V->Option Int->Option Int->Hp->VK->Prop} (hr:SlR X r) (he:PE X e te) (hl:PO X lo tl) (hu:PO X hi th):PE X (.Subscript e (.Slice lo hi none p2) pos) (tSl r te tl th):=by
 intro pins s σ H Q I h
 refine Subscript_ (thn (he pins s σ H _ I h) fun v s1 hz32=>?_)
 obtain ⟨x,H1,I1,r1,q1⟩:=hz32
 refine wpAny_Slice (thn (hl pins s1 σ H1 _ I1 q1) fun vl s2 hz33=>?_)
 obtain ⟨l,H2,I2,pl,q2⟩:=hz33
 refine thn (hu pins s2 σ H2 _ I2 q2) fun vu s3 hz34=>?_
 obtain ⟨u,H3,I3,pu,q3⟩:=hz34
 rw [evalPart_none]
 refine wpAny_pure ?_
 have I4:Inv X pins σ H3 { s3 with heap:=s3.heap.push { cls:=.type "slice",data:=.fields #[vl,vu,.none] } }:=I3.kept (t':=s3.toks) fun b ob q=>Heap.get?_push_of_some _ q
 obtain ⟨T,id,hT,ht,hg⟩:=hr pins { s3 with heap:=s3.heap.push { cls:=.type "slice",data:=.fields #[vl,vu,.none] } } σ H3 x v vl vu l u s3.heap.objs.size Q I4 r1 (Heap.IsSliceOf.new ..) pl pu q3
 show wpAny (model X.prog X.w) X.A (subscriptTail e (.Slice lo hi none p2) v (.ref s3.heap.objs.size)) (EP X pins σ Q) X.xe { s3 with heap:=s3.heap.push { cls:=.type "slice",data:=.fields #[vl,vu,.none] } }
 exact tail_any (ops:=[.ref s3.heap.objs.size,v]) ht hT hg (by with_unfolding_all rfl)
def cutV (xs:List V) (lo hi:Option Int):List V:=(xs.drop (HT.sIx xs.length 0 lo)).take (HT.sIx xs.length xs.length hi - HT.sIx xs.length 0 lo)
theorem cutV_length (xs:List V) (lo hi:Option Int):(cutV xs lo hi).length <= xs.length:=by
 unfold cutV
 rw [List.length_take,List.length_drop]
 omega
def rSlT (K:PySem.W.Frag):V->Option Int->Option Int->Hp->VK->Prop:=fun x lo hi H Q=>∃ a xs,x=.ref a/\SqT K H a xs /\
 ¬ (HT.sIx xs.length 0 lo=0/\HT.sIx xs.length xs.length hi=xs.length)/\∀ p,H p=none->Q (.ref p) (upd H p (.tup (cutV xs lo hi)))
theorem sl_tup:SlR X (rSlT X.K):=by
 intro pins s σ H x v vl vu lo hi sl Q I rx hs pl pu h
 obtain ⟨a,xs,rfl,hx,hw,q⟩:=h
 cases rx
 obtain ⟨its,r,ht,hz⟩:=I.tuple hx
 have hlen:its.toArray.size=xs.length:=by rw [List.size_toArray];exact r.length.symm
 refine ⟨"tuple",_,PyProof.Rows.slot_tuple_getitem.lookup,ht.typeIs,?_⟩
 refine HT.getItem_tuple_cut ht hs pl pu (by rw [hlen];exact hw) ?_ (by rw [hlen];exact hz)
 rw [hlen]
 refine ⟨.ref s.heap.objs.size,_,I.laid (t':=s.toks) (o:=.tup (cutV xs lo hi)) (fun b ob q=>Heap.get?_push_of_some _ q) (Nat.le_refl _) ?_,rfl,q _ (I.hok.fresh (Nat.le_refl _))⟩
 exact ⟨Nat.le_trans (cutV_length xs lo hi) hz,_,(r.drop (HT.sIx xs.length 0 lo)).take (HT.sIx xs.length xs.length hi - HT.sIx xs.length 0 lo),IsTup.new _ _⟩
end
end L2
namespace L2
open PySem PySem.Spec PyProof.Rows
def ixN (n:Nat) (i:Int):Option Nat:=if 0 <= i then (if i < n then some i.toNat else none) else if -(n:Int) <= i then some (i + n).toNat else none
def atI {α:Type} (xs:List α) (i:Int):Option α:=(ixN xs.length i).bind fun j=>xs[j]?
theorem ixN_seq {n:Nat} {i:Int} {j:Nat} (h:ixN n i=some j):seqIndex? i n=some j/\j < n/\-(n:Int) <= i/\i < n:=by
 unfold ixN at h
 by_cases h0:0 <= i
 ·rw [if_pos h0] at h
  by_cases h1:i < n
  ·rw [if_pos h1] at h
   have e:i.toNat=j:=Option.some.inj h
   exact ⟨by rw [seqIndex_of h0 h1,e],by omega,by omega,h1⟩
  ·rw [if_neg h1] at h;cases h
 ·rw [if_neg h0] at h
  by_cases h1:-(n:Int) <= i
  ·rw [if_pos h1] at h
   have e:(i + n).toNat=j:=Option.some.inj h
   exact ⟨by rw [seqIndex_neg (by omega) h1,e],by omega,h1,by omega⟩
  ·rw [if_neg h1] at h;cases h
theorem atI_get {α:Type} {xs:List α} {i:Int} {v:α} (h:atI xs i=some v):∃ j,seqIndex? i xs.length=some j/\xs[j]?=some v/\j < xs.length/\-(xs.length:Int) <= i/\i < xs.length:=by
 unfold atI at h
 cases e:ixN xs.length i with
 | none=>rw [e] at h;cases h
 | some j=>
  rw [e] at h
  obtain ⟨h1,h2,h3,h4⟩:=ixN_seq e
  exact ⟨j,h1,h,h2,h3,h4⟩
theorem atI_nat {α:Type} {xs:List α} {j:Nat} {v:α} (h:xs[j]?=some v):atI xs (j:Int)=some v:=by
 have hj:j < xs.length:=(List.getElem?_eq_some_iff.mp h).1
 have e:ixN xs.length (j:Int)=some j:=by
  unfold ixN
  rw [if_pos (by omega),if_pos (by omega)];simp
 unfold atI;rw [e];exact h
theorem atI_last {α:Type} (xs:List α) (v:α):atI (xs ++ [v]) (-1)=some v:=by
 have hl:(xs ++ [v]).length=xs.length + 1:=by simp
 have e:ixN (xs ++ [v]).length (-1)=some xs.length:=by
  unfold ixN
  rw [hl,if_neg (by decide),if_pos (by omega)]
  congr 1
  omega
 unfold atI
 rw [e]
 show (xs ++ [v])[xs.length]?=some v
 simp
def PlainIx (b:Expr):Prop:=∀ o i,subscripted b false o i=operate [o,i] (getItem o i)
def IxR (X:Cx) (r:R2):Prop:=
 ∀ (value slice:Expr) (pins:List (Addr × Obj)) (s:Shared) (σ:St) (H:Hp) (x y:V) (v u:Value) (Q:VK),Inv X pins σ H s->RelV x v->RelV y u->r x y H Q ->
  subscripted slice false v u=operate [v,u] (getItem v u)->wpAny (model X.prog X.w) X.A (subscriptTail value slice v u) (EP X pins σ Q) X.xe s
def MtR (X:Cx) (id:String) (r:V->List V->Hp->VK->Prop):Prop:=
 ∀ (pins:List (Addr × Obj)) (s:Shared) (σ:St) (H:Hp) (x:V) (xs:List V) (v:Value) (us:List Value) (Q:VK),Inv X pins σ H s->RelV x v->Vals xs us->r x xs H Q ->
  wpAny (model X.prog X.w) X.A (call (.builtin id) (v :: us)) (EP X pins σ Q) X.xe s
section
variable {X:Cx} {a b:Expr} {ta tb:TE} {pos:Pos}
theorem IxR.or {r r':R2} (h:IxR X r) (h':IxR X r'):IxR X (fun x y H Q=>r x y H Q \/ r' x y H Q):=by
 intro value slice pins s σ H x y v u Q I rx ry q hs
 rcases q with q | q
 ·exact h value slice pins s σ H x y v u Q I rx ry q hs
 ·exact h' value slice pins s σ H x y v u Q I rx ry q hs
theorem pe_ix {r:R2} (hr:IxR X r) (ha:PE X a ta) (hb:PE X b tb) (hs:PlainIx b):PE X (.Subscript a b pos) (tOp r ta tb):=by
 intro pins s σ H Q I h
 exact Subscript_ (binT ha hb I h fun v u s2 x y H2 I2 rx ry q=>hr a b pins s2 σ H2 x y v u Q I2 rx ry q (hs _ _))
def rIxL (K:PySem.W.Frag):R2:=fun x y H Q=>∃ p xs i v,x=.ref p/\y=.int i/\SqL K H p xs/\atI xs i=some v/\Q v H
def rIxT (K:PySem.W.Frag):R2:=fun x y H Q=>∃ p xs i v,x=.ref p/\y=.int i/\SqT K H p xs/\atI xs i=some v/\Q v H
def rIxS:R2:=fun x y H Q=>∃ z i c,x=.str z/\y=.int i/\z.length <= sizeLine/\atI z.cps.toList i=some c/\Q (.str ⟨#[c]⟩) H
theorem ix_list:IxR X (rIxL X.K):=by
 intro value slice pins s σ H x y v u Q I rx ry h hs
 obtain ⟨p,xs,i,z,rfl,rfl,hq,he,q⟩:=h
 cases rx
 obtain ⟨t,rfl⟩:=ry
 obtain ⟨its,r,pl,hz⟩:=I.list hq
 obtain ⟨j,h1,h2,h3,h4,h5⟩:=atI_get he
 obtain ⟨w,ew,rw'⟩:=r.get h2
 have hl:=r.length
 have hn:=line63
 have fin:EP X pins σ Q w s:=⟨z,H,I,rw',q⟩
 by_cases h0:0 <= i
 ·have hj:i.toNat=j:=by
   rw [seqIndex_of h0 h5] at h1
   exact Option.some.inj h1
  exact item_listR pl.isList h0 (by omega) (by rw [hj];simpa using ew) fin hs
 ·have hj:(i + (its.toArray.size:Int)).toNat=j:=by
   rw [seqIndex_neg (by omega) h4] at h1
   rw [List.size_toArray,<- hl]
   exact Option.some.inj h1
  exact subscriptTail_builtinR (x:=w) pl.isList.typeIs slot_list_getitem.lookup
   (wpAny_getItem_list_neg (Q:=fun r s'=>r=w/\EP X pins σ Q r s') pl.isList (by omega) (by rw [List.size_toArray] <;> omega) (by omega) (by rw [hj];simpa using ew) ⟨rfl,fin⟩) hs
theorem ix_tup:IxR X (rIxT X.K):=by
 intro value slice pins s σ H x y v u Q I rx ry h hs
 obtain ⟨p,xs,i,z,rfl,rfl,hq,he,q⟩:=h
 cases rx
 obtain ⟨t,rfl⟩:=ry
 obtain ⟨its,r,pl,hz⟩:=I.tuple hq
 obtain ⟨j,h1,h2,h3,h4,h5⟩:=atI_get he
 obtain ⟨w,ew,rw'⟩:=r.get h2
 have hl:=r.length
 have hn:=line63
 have fin:EP X pins σ Q w s:=⟨z,H,I,rw',q⟩
 exact subscriptTail_builtinR (x:=w) pl.typeIs slot_tuple_getitem.lookup
  (getItem_tuple (j:=j) (Q:=fun r s'=>r=w/\EP X pins σ Q r s') pl (by omega) (by omega) (by rw [List.size_toArray,<- hl];exact h1) (by simpa using ew) ⟨rfl,fin⟩) hs
theorem ix_str:IxR X rIxS:=by
 intro value slice pins s σ H x y v u Q I rx ry h hs
 obtain ⟨z,i,c,rfl,rfl,hz,he,q⟩:=h
 obtain ⟨t,rfl⟩:=rx
 obtain ⟨t',rfl⟩:=ry
 obtain ⟨j,h1,h2,h3,h4,h5⟩:=atI_get he
 have hl:z.cps.toList.length=z.length:=by simp [Str.length]
 rw [hl] at h1 h4 h5
 have hn:=line63
 exact tail_any (typeIs_str s z t) slot_str_getitem.lookup (getItem_str (c:=c) (by
  have e1:decide (i < -(2 ^ 63:Int))=false:=decide_eq_false (by omega)
  have e2:decide (i >= 2 ^ 63)=false:=decide_eq_false (by omega)
  rw [e1,e2,Bool.or_false]) (by rw [h1];simpa using h2) ⟨.str ⟨#[c]⟩,H,I.tok _,⟨_,rfl⟩,q⟩) hs
theorem mapSeq_set (its:List Value) (n j:Nat) (u:Value):Obj.mapSeq (·.setIfInBounds j u) { cls:=.type "list",data:=.seq its.toArray n } = { cls:=.type "list",data:=.seq (its.set j u).toArray n }:=by
 simp [Obj.mapSeq]
theorem Inv.lst {pins:List (Addr × Obj)} {σ:St} {H:Hp} {s:Shared} {p:Addr} {xs:List V} (I:Inv X pins σ H s) (h:H p=some (.lst xs)) :
  ∃ (its:List Value) (n:Nat),Vals xs its/\s.heap.get? p=some { cls:=.type "list",data:=.seq its.toArray n }/\xs.length <= sizeLine:=by
 obtain ⟨z,its,n,r,e⟩:=I.hok p _ h
 exact ⟨its,n,r,e,z⟩
theorem Inv.lstUpd {pins:List (Addr × Obj)} {σ:St} {H:Hp} {s:Shared} {p:Addr} {xs ys:List V} {its its':List Value} {n n':Nat} {f:Obj->Obj} (I:Inv X pins σ H s) (h:H p=some (.lst xs))
  (ho:s.heap.get? p=some { cls:=.type "list",data:=.seq its.toArray n }) (hf:f { cls:=.type "list",data:=.seq its.toArray n } = { cls:=.type "list",data:=.seq its'.toArray n' }) (r:Vals ys its') (hz:ys.length <= sizeLine) (t:Nat) :
  Inv X pins σ (upd H p (.lst ys)) { s with heap:=s.heap.update p f,toks:=t }:=by
 have e:(s.heap.update p f).get? p=some { cls:=.type "list",data:=.seq its'.toArray n' }:=by
  rw [Heap.get?_update_self f ho (by rw [hf] <;> rfl),hf]
 refine I.write (x:=p) (e:=p) (by rw [h];trivial) (.inl rfl) (fun b u hb q=>(Heap.get?_update_other _ _ (Ne.symm hb)).trans q) ⟨_,e⟩ ?_
 exact ⟨hz,its',n',r,e⟩
def rSetL:V->V->V->Hp->(Hp->Prop)->Prop:=fun o i v H Q=>∃ p xs k j,o=.ref p/\i=.int k/\H p=some (.lst xs)/\ixN xs.length k=some j/\Q (upd H p (.lst (xs.set j v)))
theorem set_list:PSet X rSetL:=by
 intro pins s σ H o i v ov iv u Q I ro ri rv h
 obtain ⟨p,xs,k,j,rfl,rfl,hp,hj,q⟩:=h
 cases ro
 obtain ⟨t,rfl⟩:=ri
 obtain ⟨its,n,r,ho,hz⟩:=I.lst hp
 obtain ⟨h1,h2,h3,h4⟩:=ixN_seq hj
 have hl:=r.length
 have hn:=line63
 have I':Inv X pins σ (upd H p (.lst (xs.set j v))) { s with heap:=s.heap.update p (Obj.mapSeq (·.setIfInBounds j u)) }:=
  I.lstUpd hp ho (mapSeq_set its n j u) (r.set rv j) (by rw [List.length_set];exact hz) s.toks
 by_cases h0:0 <= k
 ·have hk:k.toNat=j:=by
   rw [seqIndex_of h0 h4] at h1
   exact Option.some.inj h1
  exact PySem.W.ki_setAt ho h0 (by omega) (by rw [List.size_toArray,<- hl];exact h4) (by rw [hk];exact ⟨_,I',q⟩)
 ·have hk:(k + (its.toArray.size:Int)).toNat=j:=by
   rw [seqIndex_neg (by omega) h3] at h1
   rw [List.size_toArray,<- hl]
   exact Option.some.inj h1
  exact PySem.W.ki_setBack ho (by omega) (by rw [List.size_toArray,<- hl];exact h3) (by omega) (by rw [hk];exact ⟨_,I',q⟩)
theorem slice_bounds (lo hi:Option Int) (n:Nat):(sliceBounds lo hi none n).1=((HT.sIx n 0 lo:Nat):Int)/\(sliceBounds lo hi none n).2.1=((HT.sIx n n hi:Nat):Int)/\(sliceBounds lo hi none n).2.2=1:=by
 refine ⟨?_,?_,rfl⟩
 ·cases lo with
  | none=>simp [sliceBounds,HT.sIx]
  | some i=>
   simp only [sliceBounds,HT.sIx,Option.getD_none,show (1:Int) > 0 by decide,if_true]
   by_cases h:i < 0
   ·simp only [h,if_true] <;> omega
   ·simp only [h,if_false] <;> omega
 ·cases hi with
  | none=>simp [sliceBounds,HT.sIx]
  | some i=>
   simp only [sliceBounds,HT.sIx,Option.getD_none,show (1:Int) > 0 by decide,if_true]
   by_cases h:i < 0
   ·simp only [h,if_true] <;> omega
   ·simp only [h,if_false] <;> omega
theorem slicePick_cut (its:List Value) (lo hi:Option Int):slicePick its.toArray lo hi none=((its.drop (HT.sIx its.length 0 lo)).take (HT.sIx its.length its.length hi - HT.sIx its.length 0 lo)).toArray:=by
 obtain ⟨h1,h2,h3⟩:=slice_bounds lo hi its.toArray.size
 unfold slicePick
 rw [h1,h2,h3]
 simp only [sliceRange_one,pick_run,List.size_toArray] <;> rfl
def rSlL (K:PySem.W.Frag):V->Option Int->Option Int->Hp->VK->Prop:=fun x lo hi H Q=>∃ a xs,x=.ref a/\SqL K H a xs/\∀ p,H p=none->Q (.ref p) (upd H p (.lst (cutV xs lo hi)))
theorem sl_list:SlR X (rSlL X.K):=by
 intro pins s σ H x v vl vu lo hi sl Q I rx hs pl pu h
 obtain ⟨a,xs,rfl,hx,q⟩:=h
 cases rx
 obtain ⟨its,r,ht,hz⟩:=I.list hx
 have hlen:=r.length
 refine ⟨"list",_,slot_list_getitem.lookup,ht.isList.typeIs,?_⟩
 refine wpAny_getItem_list_slice ht.isList hs pl pu .none (by simp) ?_ (by rw [List.size_toArray] <;> omega)
 rw [slicePick_cut,<- hlen]
 refine ⟨.ref s.heap.objs.size,_,I.laid (t':=s.toks) (o:=.lst (cutV xs lo hi)) (fun b ob q=>Heap.get?_push_of_some _ q) (Nat.le_refl _) ?_,rfl,q _ (I.hok.fresh (Nat.le_refl _))⟩
 exact ⟨Nat.le_trans (cutV_length xs lo hi) hz,_,0,(r.drop (HT.sIx xs.length 0 lo)).take (HT.sIx xs.length xs.length hi - HT.sIx xs.length 0 lo),Heap.get?_push_size _ rfl⟩
def flatV:V->Bool
 | .non=>true
 | .bl _=>true
 | .int _=>true
 | .str _=>true
 | _=>false
def eqV:V->V->Bool
 | .non,.non=>true
 | .bl a,.bl b=>a == b
 | .bl a,.int b=>(if a then 1 else 0) == b
 | .int a,.bl b=>a == (if b then 1 else 0)
 | .int a,.int b=>a == b
 | .str a,.str b=>a == b
 | _,_=>false
theorem eqAt_V {A:Around} {s:Shared} {y x:V} {u v:Value} (ry:RelV y u) (rx:RelV x v) (fy:flatV y=true) (fx:flatV x=true):SeqAt.EqAt A s u v (eqV y x):=by
 cases y with
 | non=>
  cases ry
  cases x with
  | non=>cases rx;exact SeqAt.EqAt.same _
  | bl b=>cases rx;exact SeqAt.EqAt.none_bool b
  | int b=>obtain ⟨t,rfl⟩:=rx;exact SeqAt.EqAt.none_int b t
  | str b=>obtain ⟨t,rfl⟩:=rx;exact SeqAt.EqAt.none_str b t
  | _=>exact absurd (show false=true from fx) Bool.false_ne_true
 | bl a=>
  cases ry
  cases x with
  | non=>cases rx;exact SeqAt.EqAt.bool_none a
  | bl b=>cases rx;exact SeqAt.EqAt.bool_bool a b
  | int b=>obtain ⟨t,rfl⟩:=rx;exact SeqAt.EqAt.bool_int a b t
  | str b=>obtain ⟨t,rfl⟩:=rx;exact SeqAt.EqAt.bool_str a b t
  | _=>exact absurd (show false=true from fx) Bool.false_ne_true
 | int a=>
  obtain ⟨t',rfl⟩:=ry
  cases x with
  | non=>cases rx;exact SeqAt.EqAt.int_none a t'
  | bl b=>cases rx;exact SeqAt.EqAt.int_bool a t' b
  | int b=>obtain ⟨t,rfl⟩:=rx;exact SeqAt.EqAt.int_int a t' b t
  | str b=>obtain ⟨t,rfl⟩:=rx;exact SeqAt.EqAt.int_str a t' b t
  | _=>exact absurd (show false=true from fx) Bool.false_ne_true
 | str a=>
  obtain ⟨t',rfl⟩:=ry
  cases x with
  | non=>cases rx;exact SeqAt.EqAt.str_none a t'
  | bl b=>cases rx;exact SeqAt.EqAt.str_bool a t' b
  | int b=>obtain ⟨t,rfl⟩:=rx;exact SeqAt.EqAt.str_int a t' b t
  | str b=>obtain ⟨t,rfl⟩:=rx;exact SeqAt.EqAt.str_str a t' b t
  | _=>exact absurd (show false=true from fx) Bool.false_ne_true
 | _=>exact absurd (show false=true from fy) Bool.false_ne_true
def eqU (x:V) (u:Value):Bool:=match u with
 | .none=>eqV .non x
 | .bool b=>eqV (.bl b) x
 | .int i _=>eqV (.int i) x
 | .str z _=>eqV (.str z) x
 | _=>false
theorem eqU_of {x y:V} {u:Value} (r:RelV y u) (f:flatV y=true):eqU x u=eqV y x:=by
 cases y with
 | non=>cases r;rfl
 | bl b=>cases r;rfl
 | int i=>obtain ⟨t,rfl⟩:=r;rfl
 | str z=>obtain ⟨t,rfl⟩:=r;rfl
 | _=>exact absurd (show false=true from f) Bool.false_ne_true
theorem any_eqU {x:V}:∀ {xs:List V} {us:List Value},Vals xs us->xs.all flatV=true->us.any (eqU x)=xs.any fun y=>eqV y x
 | _,_,.nil,_=>rfl
 | y :: xs,u :: us,.cons r t,f=>by
  rw [List.all_cons,Bool.and_eq_true] at f
  rw [List.any_cons,List.any_cons,eqU_of r f.1,any_eqU t f.2]
theorem mem_eqAt {A:Around} {s:Shared} {x:V} {v:Value} (rx:RelV x v) (fx:flatV x=true):∀ {xs:List V} {us:List Value},Vals xs us->xs.all flatV=true->∀ u ∈ us,SeqAt.EqAt A s u v (eqU x u)
 | _,_,.nil,_=>fun u hu=>by cases hu
 | y :: xs,u :: us,.cons r t,f=>fun u' hu=>by
  rw [List.all_cons,Bool.and_eq_true] at f
  rcases List.mem_cons.mp hu with rfl | hu
  ·rw [eqU_of r f.1];exact eqAt_V r rx f.1 fx
  ·exact mem_eqAt rx fx t f.2 u' hu
def inV (x:V) (xs:List V):Bool:=xs.any fun y=>eqV y x
def rIn (K:PySem.W.Frag) (neg:Bool):R2:=fun x y H Q=>∃ p xs,y=.ref p/\(SqL K H p xs \/ SqT K H p xs)/\flatV x=true/\xs.all flatV=true/\Q (.bl (if neg then !inV x xs else inV x xs)) H
theorem op_in_seq:OpR X (compareOp .In) (rIn X.K false):=by
 intro pins s σ H x y v u Q I rx ry h
 obtain ⟨p,xs,rfl,hq,fx,fs,q⟩:=h
 cases ry
 rcases hq with hq | hq
 ·obtain ⟨its,r,pl,hz⟩:=I.list hq
  refine SeqAt.in_listAt (eqU x) pl.isList (fun w hw=>mem_eqAt rx fx r fs w (by simpa using hw)) ⟨.bl _,H,I,rfl,?_⟩
  rw [show its.toArray.any (eqU x)=its.any (eqU x) by simp,any_eqU r fs]
  exact q
 ·obtain ⟨its,r,pl,hz⟩:=I.tuple hq
  refine SeqAt.in_tupleAt (eqU x) pl (fun w hw=>mem_eqAt rx fx r fs w (by simpa using hw)) ⟨.bl _,H,I,rfl,?_⟩
  rw [show its.toArray.any (eqU x)=its.any (eqU x) by simp,any_eqU r fs]
  exact q
theorem op_notIn_seq:OpR X (compareOp .NotIn) (rIn X.K true):=by
 intro pins s σ H x y v u Q I rx ry h
 obtain ⟨p,xs,rfl,hq,fx,fs,q⟩:=h
 cases ry
 rcases hq with hq | hq
 ·obtain ⟨its,r,pl,hz⟩:=I.list hq
  refine SeqAt.notIn_listAt (eqU x) pl.isList (fun w hw=>mem_eqAt rx fx r fs w (by simpa using hw)) ⟨.bl _,H,I,rfl,?_⟩
  rw [show its.toArray.any (eqU x)=its.any (eqU x) by simp,any_eqU r fs]
  exact q
 ·obtain ⟨its,r,pl,hz⟩:=I.tuple hq
  refine SeqAt.notIn_tupleAt (eqU x) pl (fun w hw=>mem_eqAt rx fx r fs w (by simpa using hw)) ⟨.bl _,H,I,rfl,?_⟩
  rw [show its.toArray.any (eqU x)=its.any (eqU x) by simp,any_eqU r fs]
  exact q
theorem call_list_of:CallR X (.type "list") (fun xs H Q=>∃ p ys,xs=[.ref p]/\(SqL X.K H p ys \/ SqT X.K H p ys)/\∀ l,H l=none->Q (.ref l) (upd H l (.lst ys))):=by
 intro pins s σ H xs us Q I r h
 obtain ⟨p,ys,rfl,hq,q⟩:=h
 obtain ⟨u,rfl,rx⟩:=vals1 r
 cases rx
 have fin:∀ (its:List Value),Vals ys its->ys.length <= sizeLine->∀ (h':Heap) (c':Nat),(∀ b o',s.heap.get? b=some o'->h'.get? b=some o') ->
   h'.get? s.heap.objs.size=some { cls:=.type "list",dict:=none,data:=.seq its.toArray c',slots:=#[] }->EP X pins σ Q (.ref s.heap.objs.size) { s with heap:=h' }:=fun its r' hz h' c' kp e=>
  ⟨.ref s.heap.objs.size,_,I.laid (t':=s.toks) kp (Nat.le_refl _) (show ObjOk X.prog X.w _ h' _ (.lst ys) from ⟨hz,its,c',r',e⟩),rfl,q _ (I.hok.fresh (Nat.le_refl _))⟩
 rcases hq with hq | hq
 ·obtain ⟨its,r',pl,hz⟩:=I.list hq
  have hlen:=r'.length
  obtain ⟨o,ho,hc,n,hd⟩:=pl.isList
  exact call_list_seq p (.inl rfl) ho hc hd (fun h' c' kp e=>fin its r' hz h' c' kp e) (by simp only [List.size_toArray] <;> omega)
 ·obtain ⟨its,r',pl,hz⟩:=I.tuple hq
  have hlen:=r'.length
  obtain ⟨o,ho,hc,n,hd⟩:=pl
  exact call_list_seq p (.inr rfl) ho hc hd (fun h' c' kp e=>fin its r' hz h' c' kp e) (by simp only [List.size_toArray] <;> omega)
def tyV (K:PySem.W.Frag) (T:String) (x:V) (H:Hp):Prop:=match x with
 | .str _=>T="str"
 | .int _=>T="int"
 | .ref p=>(T="list"/\∃ xs,SqL K H p xs) \/ (T="tuple"/\∃ o,K.lookup p=some o/\o.cls=.type "tuple"/\o.dict=none) \/
   (T="dict"/\((∃ kvs,H p=some (.dK kvs)) \/ ∃ kvs,H p=some (.dT kvs))) \/ (T="set"/\∃ S n,H p=some (.set S n))
 | _=>False
theorem tyV_is {pins:List (Addr × Obj)} {σ:St} {H:Hp} {s:Shared} {T:String} {x:V} {v:Value} (I:Inv X pins σ H s) (r:RelV x v) (ty:tyV X.K T x H) :
  s.TypeIs v T/\∀ a,v=.ref a->∃ ob,s.heap.get? a=some ob/\ob.dict=none:=by
 cases x with
 | str z=>
  obtain ⟨t,rfl⟩:=r
  cases (show T="str" from ty)
  exact ⟨typeIs_str s z t,fun _ e=>nomatch e⟩
 | int i=>
  obtain ⟨t,rfl⟩:=r
  cases (show T="int" from ty)
  exact ⟨typeIs_int s i t,fun _ e=>nomatch e⟩
 | ref p=>
  cases r
  rcases ty with ⟨rfl,xs,hq⟩ | ⟨rfl,o,hk,hc,hd⟩ | ⟨rfl,hk⟩ | ⟨rfl,S,n,hk⟩
  ·obtain ⟨its,_,pl,_⟩:=I.list hq
   refine ⟨pl.isList.typeIs,fun a e=>?_⟩
   cases e
   obtain ⟨o,n,e,c,hd,_⟩:=pl
   exact ⟨o,e,hd⟩
  ·refine ⟨⟨o,I.kIn p o hk,hc⟩,fun a e=>?_⟩
   cases e
   exact ⟨o,I.kIn _ o hk,hd⟩
  ·have z:∃ o,s.heap.get? p=some o/\o.ExactDict:=by
    rcases hk with ⟨kvs,hk⟩ | ⟨kvs,hk⟩
    ·obtain ⟨_,_,_,_,o,_,_,e,ex,_⟩:=I.hok p _ hk
     exact ⟨o,e,ex⟩
    ·obtain ⟨_,_,_,_,o,_,_,e,ex,_⟩:=I.hok p _ hk
     exact ⟨o,e,ex⟩
   obtain ⟨o,e,ex⟩:=z
   refine ⟨⟨o,e,ex.1⟩,fun a e2=>?_⟩
   cases e2
   exact ⟨o,e,ex.2.1⟩
  ·obtain ⟨o,_,_,_,e,ex,_⟩:=I.hok p _ hk
   refine ⟨⟨o,e,ex.1⟩,fun a e2=>?_⟩
   cases e2
   exact ⟨o,e,ex.2.1⟩
 | _=>exact False.elim ty
def tBM (K:PySem.W.Frag) (T:String) (r:V->List V->Hp->VK->Prop) (to:TE) (t:TA):TE:=fun σ H Q=>to σ H fun x H1=>tyV K T x H1/\t σ H1 fun xs H2=>r x xs H2 Q
variable {o e:Expr} {es:List Expr} {to:TE} {t:TA} {name:Str} {apos cpos:Pos} {T id:String} {r:V->List V->Hp->VK->Prop}
theorem pe_bm (pa:PlainAttrs T) (slot:Slot T name id) (hty:typeOf (.builtin id)=pure (.type "method_descriptor")) (hm:MtR X id r) (ho:PE X o to) (ha:PA X (e :: es) t)
  (hbase:attributeBase o name X.env (eval o X.env)=eval o X.env:=by rfl)
  (hfew:((backTo cpos (starEach (e :: es) X.env)).all (fun x=>!x.1) && (backToKw cpos (keywordEach [] X.env)).all (fun x=>x.1.isSome)
   && decide ((e :: es).length + ([]:List Keyword).length + (if ([]:List Keyword).isEmpty then 0 else 1) < 30))=true:=by rfl)
  (hline:(apos.endLine == cpos.line)=true:=by rfl) (hs:starEach (e :: es) X.env=(false,eval e X.env) :: starEach es X.env:=by rfl) (hplain:(backTo cpos (starEach es X.env)).any (·.1)=false:=by rfl) :
  PE X (.Call (.Attribute o name apos) (e :: es) [] cpos) (tBM X.K T r to t):=by
 intro pins s σ H Q I h
 refine wpAny_Call_method_late hbase hfew hline rfl (thn (ho pins s σ H _ I h) fun v s1 hz35=>?_)
 obtain ⟨x,H1,I1,r1,ty,q1⟩:=hz35
 obtain ⟨h1,h2⟩:=tyV_is I1 r1 ty
 refine ⟨T,id,pa,slot,hty,h1,h2,?_⟩
 have hA:=ha cpos pins s1 σ H1 _ I1 q1
 rw [hs] at hA ⊢
 refine Calls.callWith_builtin (by show (false || (backTo cpos (starEach es X.env)).any (·.1))=false;rw [hplain] <;> rfl) (Calls.evalArgs_plain ?_)
 exact thn hA fun us s2 ⟨vs,H2,I2,r2,q2⟩=>hm pins s2 σ H2 x vs v us Q I2 r1 r2 q2
end
end L2
namespace L2
open PySem PySem.Spec PyProof.Rows
def MtM (X:Cx) (id:String) (r:V->List V->Hp->VK->Prop):Prop:=
 ∀ (pins:List (Addr × Obj)) (s:Shared) (σ:St) (H:Hp) (x:V) (xs:List V) (v:Value) (us:List Value) (Q:VK),Inv X pins σ H s->RelV x v->Vals xs us->r x xs H Q ->
  wpAny (model X.prog X.w) X.A (call (.builtin id) (v :: us)) (EP X pins σ Q) X.xe s
theorem Vals.one {x:V} {us:List Value} (h:Vals [x] us):∃ u,us=[u]/\RelV x u:=by
 cases h with
 | cons r k=>cases k;exact ⟨_,rfl,r⟩
theorem Vals.two {x y:V} {us:List Value} (h:Vals [x,y] us):∃ u v,us=[u,v]/\RelV x u/\RelV y v:=by
 cases h with
 | cons r k=>cases k with
  | cons q m=>cases m;exact ⟨_,_,rfl,r,q⟩
theorem Vals.eraseIdx:∀ {xs:List V} {us:List Value} (i:Nat),Vals xs us->Vals (xs.eraseIdx i) (us.eraseIdx i)
 | _,_,_,.nil=>.nil
 | _,_,0,.cons _ t=>t
 | _,_,i + 1,.cons r t=>.cons r (Vals.eraseIdx i t)
theorem len_erase {α:Type}:∀ (l:List α) (i:Nat),(l.eraseIdx i).length <= l.length
 | [],_=>Nat.le_refl _
 | _ :: _,0=>Nat.le_succ _
 | _ :: r,i + 1=>Nat.succ_le_succ (len_erase r i)
section
variable {X:Cx} {pins:List (Addr × Obj)} {σ:St} {H:Hp} {s:Shared} {l b:Addr} {xs ys zs:List V}
theorem Inv.lset {its its':List Value} {n:Nat} {f:Array Value->Array Value} {t':Nat} (I:Inv X pins σ H s) (hH:H l=some (.lst xs))
  (e:s.heap.get? l=some { cls:=.type "list",data:=.seq its.toArray n }) (hf:f its.toArray=its'.toArray) (hv:Vals ys its') (hz:ys.length <= sizeLine) :
  Inv X pins σ (upd H l (.lst ys)) { s with heap:=s.heap.update l (Obj.mapSeq f),toks:=t' }:=by
 have q:=PySem.IsL.update e f
 rw [hf] at q
 refine I.write (x:=l) (e:=l) (by rw [hH];exact trivial) (.inl rfl) (fun b' u hb hu=>(Heap.get?_update_other s.heap (Obj.mapSeq f) (Ne.symm hb)).trans hu) ⟨_,q⟩ ?_
 exact ⟨hz,its',_,hv,q⟩
theorem Inv.lnew {its:List Value} {t':Nat} (I:Inv X pins σ H s) (hv:Vals ys its) (hz:ys.length <= sizeLine) :
  Inv X pins σ (upd H s.heap.objs.size (.lst ys)) { s with heap:=s.heap.push { cls:=.type "list",data:=.seq its.toArray },toks:=t' }:=
 I.laid (fun _ _ q=>Heap.get?_push_of_some _ q) (Nat.le_refl _) ⟨hz,its,0,hv,Heap.get?_push_size _ rfl⟩
theorem Inv.fresh (I:Inv X pins σ H s):H s.heap.objs.size=none:=I.hok.fresh (Nat.le_refl _)
theorem Inv.lstM (I:Inv X pins σ H s) (hH:H l=some (.lst xs)):xs.length <= sizeLine/\∃ (its:List Value) (n:Nat),Vals xs its/\xs.length=its.length/\s.heap.get? l=some { cls:=.type "list",data:=.seq its.toArray n }:=by
 obtain ⟨z,its,n,r,e⟩:=I.hok l _ hH
 exact ⟨z,its,n,r,r.length,e⟩
end
section
variable {X:Cx}
def rAppend:V->List V->Hp->VK->Prop:=fun x vs H Q=>∃ l xs y,x=.ref l/\vs=[y]/\H l=some (.lst xs)/\xs.length < sizeLine/\Q .non (upd H l (.lst (xs ++ [y])))
theorem mt_append:MtM X "list.append" rAppend:=by
 intro pins s σ H x vs v us Q I rx rv h
 obtain ⟨l,xs,y,rfl,rfl,hH,hz,q⟩:=h
 cases rx
 obtain ⟨u,rfl,ru⟩:=rv.one
 obtain ⟨z,its,n,r,hl,e⟩:=I.lstM hH
 refine call_meets F.slot_list_append ⟨_,e,rfl⟩ F.entry_list_append (F.args_list_append_2 _ _) (PySem.list_append l its.toArray n u (by rw [List.size_toArray];omega)) ⟨e,?_⟩
 refine ⟨.non,_,I.lset (its':=its ++ [u]) hH e (by simp) (r.append (.cons ru .nil)) ?_,rfl,q⟩
 rw [List.length_append,List.length_singleton]
 omega
def rPopAt:V->List V->Hp->VK->Prop:=fun x vs H Q=>∃ l xs i k y,x=.ref l/\vs=[.int i]/\H l=some (.lst xs)/\-(2 ^ 63) <= i/\i < 2 ^ 63/\seqIndex? i xs.length=some k/\xs[k]?=some y/\Q y (upd H l (.lst (xs.eraseIdx k)))
theorem mt_popAt:MtM X "list.pop" rPopAt:=by
 intro pins s σ H x vs v us Q I rx rv h
 obtain ⟨l,xs,i,k,y,rfl,rfl,hH,h1,h2,hk,hy,q⟩:=h
 cases rx
 obtain ⟨u,rfl,ru⟩:=rv.one
 obtain ⟨t,rfl⟩:=ru
 obtain ⟨z,its,n,r,hl,e⟩:=I.lstM hH
 obtain ⟨w,hw,rw'⟩:=r.get hy
 refine call_meets F.slot_list_pop ⟨_,e,rfl⟩ F.entry_list_pop (F.args_list_pop_2 _ _)
  (MeetsSeq.list_pop_at l its.toArray n i t k w (fitsIndex_both h1 h2) (by rw [List.size_toArray,<- hl];exact hk) (by rw [<- Array.getElem?_toList];exact hw) (by rw [List.size_toArray];omega)) ⟨e,?_⟩
 refine ⟨y,_,I.lset (its':=its.eraseIdx k) hH e ?_ (r.eraseIdx k) ?_,rw',q⟩
 ·show its.toArray.eraseIdxIfInBounds k=(its.eraseIdx k).toArray
  rw [List.eraseIdxIfInBounds_toArray]
 ·have:=len_erase xs k
  omega
def rCat:R2:=fun x y H Q=>∃ l b xs zs,x=.ref l/\y=.ref b/\H l=some (.lst xs)/\H b=some (.lst zs)/\xs.length + zs.length <= sizeLine/\∀ p,H p=none->Q (.ref p) (upd H p (.lst (xs ++ zs)))
theorem op_cat:OpR X (binaryOp .Add) rCat:=by
 intro pins s σ H x y v u Q I rx ry h
 obtain ⟨l,b,xs,zs,rfl,rfl,hH,hB,hz,q⟩:=h
 cases rx
 cases ry
 obtain ⟨z,its,n,r,hl,e⟩:=I.lstM hH
 obtain ⟨z2,its2,n2,r2,hl2,e2⟩:=I.lstM hB
 refine PySem.P.add_list e e2 ?_ (by rw [List.size_toArray,List.size_toArray];omega)
 have ea:its.toArray ++ its2.toArray=(its ++ its2).toArray:=by simp
 rw [ea]
 exact ⟨.ref _,_,I.lnew (t':=s.toks) (r.append r2) (by rw [List.length_append];omega),rfl,q _ I.fresh⟩
end
section
variable {prog:Program} {w:World} {A:Around} {E:Value->Shared->Prop} {s:Shared}
end
section
variable {X:Cx}
end
end L2
namespace L2
open PySem PySem.Spec PyProof.Rows
section
variable {κ:Type} [DecidableEq κ]
def valV (kvs:List (κ × V)) (k:κ):Option V:=(kvs.find? fun kv=>decide (kv.1=k)).map (·.2)
def putK (kvs:List (κ × V)) (k:κ) (v:V):List (κ × V):=
 if (kvs.any fun kv=>decide (kv.1=k))=true then kvs.map (fun kv=>if kv.1=k then (kv.1,v) else kv) else kvs ++ [(k,v)]
theorem valV_pos {p:κ × V} {r:List (κ × V)} {k:κ} (e:p.1=k):valV (p :: r) k=some p.2:=by simp [valV,List.find?_cons,e]
theorem valV_neg {p:κ × V} {r:List (κ × V)} {k:κ} (e:¬ p.1=k):valV (p :: r) k=valV r k:=by simp [valV,List.find?_cons,e]
theorem valV_any (k:κ):∀ kvs:List (κ × V),(kvs.any fun kv=>decide (kv.1=k))=(valV kvs k).isSome
 | []=>rfl
 | p :: r=>by
  rw [List.any_cons]
  by_cases e:p.1=k
  ·simp only [valV_pos e,decide_eq_true e,Bool.true_or,Option.isSome_some]
  ·rw [valV_neg e,decide_eq_false e,Bool.false_or];exact valV_any k r
theorem length_putK (kvs:List (κ × V)) (k:κ) (v:V):(putK kvs k v).length <= kvs.length + 1:=by
 unfold putK
 split
 ·rw [List.length_map];omega
 ·rw [List.length_append,List.length_cons,List.length_nil];omega
theorem RelO.isSome_eq {o:Option V} {u:Option Value} (r:RelO o u):o.isSome=u.isSome:=by
 cases o with
 | none=>cases u with
  | none=>rfl
  | some _=>exact (show False from r).elim
 | some _=>cases u with
  | none=>exact (show False from r).elim
  | some _=>rfl
theorem KV.val {kvs:List (κ × V)} {vs:List (κ × Value)} (r:KV kvs vs) (k:κ):RelO (valV kvs k) (valueAt vs k):=by
 unfold KV at r
 induction r with
 | nil=>exact True.intro
 | @cons p q ps qs h t ih=>
  obtain ⟨h1,h2⟩:=h
  by_cases e:p.1=k
  ·have e':q.1=k:=h1.symm.trans e
   have b:valueAt (q :: qs) k=some q.2:=by simp [valueAt,List.find?_cons,e']
   rw [valV_pos e,b];exact h2
  ·have e':¬ q.1=k:=fun z=>e (h1.trans z)
   have b:valueAt (q :: qs) k=valueAt qs k:=by simp [valueAt,List.find?_cons,e']
   rw [valV_neg e,b];exact ih
theorem KV.any {kvs:List (κ × V)} {vs:List (κ × Value)} (r:KV kvs vs) (k:κ):(kvs.any fun kv=>decide (kv.1=k))=vs.any fun kv=>decide (kv.1=k):=by
 unfold KV at r
 induction r with
 | nil=>rfl
 | cons h t ih=>rw [List.any_cons,List.any_cons,ih,h.1]
theorem KV.repl {kvs:List (κ × V)} {vs:List (κ × Value)} (r:KV kvs vs) (k:κ) {y:V} {u:Value} (ry:RelV y u) :
  KV (kvs.map fun kv=>if kv.1=k then (kv.1,y) else kv) (vs.map fun kv=>if kv.1=k then (kv.1,u) else kv):=by
 unfold KV at r ⊢
 induction r with
 | nil=>exact .nil
 | @cons p q ps qs h t ih=>
  rw [List.map_cons,List.map_cons]
  refine .cons ?_ ih
  obtain ⟨h1,h2⟩:=h
  by_cases e:p.1=k
  ·rw [if_pos e,if_pos (h1.symm.trans e)];exact ⟨h1,ry⟩
  ·rw [if_neg e,if_neg (fun z=>e (h1.trans z))];exact ⟨h1,h2⟩
theorem KV.put {kvs:List (κ × V)} {vs:List (κ × Value)} (r:KV kvs vs) (k:κ) {y:V} {u:Value} (ry:RelV y u):KV (putK kvs k y) (stored vs k u):=by
 unfold putK stored
 rw [r.any k]
 by_cases e:(vs.any fun kv=>decide (kv.1=k))=true
 ·rw [if_pos e,if_pos e];exact r.repl k ry
 ·rw [if_neg e,if_neg e];exact Paired.snoc r ⟨rfl,ry⟩
theorem KV.length {kvs:List (κ × V)} {vs:List (κ × Value)} (r:KV kvs vs):kvs.length=vs.length:=Paired.length r
end
theorem kV_is {P:Program} {w:World} {k:Key} {u:Value} (r:RelV (kV k) u):(mixKind P w).is k u=true:=by
 cases k with
 | inl i=>obtain ⟨t,e⟩:=(show ∃ t,u=Value.int i t from r);subst e;exact mixKind_int P w i t
 | inr x=>obtain ⟨t,e⟩:=(show ∃ t,u=Value.str x t from r);subst e;exact mixKind_str P w x t
theorem items_are {P:Program} {w:World}:∀ {ks:List Key} {us:List Value},Vals (ks.map kV) us->ItemsAre (mixKind P w) ks us
 | [],_,r=>by rw [List.map_nil] at r;cases r;exact .nil
 | k :: ks,_,r=>by
  rw [List.map_cons] at r
  cases r with
  | cons h t=>exact .cons (kV_is h) (items_are t)
abbrev KT (H:Hp):List (List Key × V)->List (List Key × Addr × Value)->Prop:=Paired fun p q=>p.1=q.1/\H q.2.1=some (.tup (p.1.map kV))/\RelV p.2 q.2.2
theorem KT.val {H:Hp} {kvs:List (List Key × V)} {xs:List (List Key × Addr × Value)} (r:KT H kvs xs) (k:List Key):RelO (valV kvs k) ((atKey xs k).map (·.2)):=by
 induction r with
 | nil=>exact True.intro
 | @cons p q ps qs h t ih=>
  obtain ⟨h1,_,h2⟩:=h
  by_cases e:p.1=k
  ·have e':q.1=k:=h1.symm.trans e
   have b:atKey (q :: qs) k=some q.2:=by simp [atKey,List.find?_cons,e']
   rw [valV_pos e,b];exact h2
  ·have e':¬ q.1=k:=fun z=>e (h1.trans z)
   have b:atKey (q :: qs) k=atKey qs k:=by simp [atKey,List.find?_cons,e']
   rw [valV_neg e,b];exact ih
theorem KT.repl {H:Hp} {kvs:List (List Key × V)} {xs:List (List Key × Addr × Value)} (r:KT H kvs xs) (k:List Key) {y:V} {u:Value} (ry:RelV y u) :
  KT H (kvs.map fun kv=>if kv.1=k then (kv.1,y) else kv) (xs.map (putAt k u)):=by
 induction r with
 | nil=>exact .nil
 | @cons p q ps qs h t ih=>
  rw [List.map_cons,List.map_cons]
  refine .cons ?_ ih
  obtain ⟨h1,h2,h3⟩:=h
  unfold putAt
  by_cases e:p.1=k
  ·rw [if_pos e,if_pos (h1.symm.trans e)];exact ⟨h1,h2,ry⟩
  ·rw [if_neg e,if_neg (fun z=>e (h1.trans z))];exact ⟨h1,h2,h3⟩
theorem KT.put {H:Hp} {kvs:List (List Key × V)} {xs:List (List Key × Addr × Value)} (r:KT H kvs xs) (k:List Key) {b:Addr} {y:V} {u:Value} (hb:H b=some (.tup (k.map kV))) (ry:RelV y u) :
  KT H (putK kvs k y) (storedH xs k b u):=by
 have e:(kvs.any fun kv=>decide (kv.1=k))=(atKey xs k).isSome:=by
  rw [valV_any,(r.val k).isSome_eq,Option.isSome_map]
 unfold putK storedH
 rw [e]
 by_cases q:(atKey xs k).isSome=true
 ·rw [if_pos q,if_pos q];exact r.repl k ry
 ·rw [if_neg q,if_neg q];exact Paired.snoc r ⟨rfl,hb,ry⟩
theorem KT.keeps {H H':Hp} {kvs:List (List Key × V)} {xs:List (List Key × Addr × Value)} (r:KT H kvs xs) (ht:∀ b ys,H b=some (.tup ys)->H' b=some (.tup ys)):KT H' kvs xs:=
 Paired.mapP r fun _ _ z=>⟨z.1,ht _ _ z.2.1,z.2.2⟩
section
variable {P:Program} {w:World} {H:Hp} {h:Heap} {a:Addr}
theorem rd_of {u:HO} (ok:HOk P w H h) (e:Rd H a u):ObjOk P w H h a u:=e.ok ok
theorem dk_rd {kvs:List (Key × V)} (ok:HOk P w H h) (e:Rd H a (.dK kvs)):kvs.length <= sizeLine/\(a == sysModules)=false/\∃ vs,KV kvs vs/\h.DictOf (mixKind P w) a vs:=
 show ObjOk P w H h a (.dK kvs) from rd_of ok e
theorem dk_of {kvs:List (Key × V)} (ok:HOk P w H h) (e:H a=some (.dK kvs)):kvs.length <= sizeLine/\(a == sysModules)=false/\∃ vs,KV kvs vs/\h.DictOf (mixKind P w) a vs:=dk_rd ok (.inl e)
theorem key_of {ks:List Key} (ok:HOk P w H h) (e:H a=some (.tup (ks.map kV))):(tupleKind (mixKind P w)).is h ks a:=by
 obtain ⟨_,its,r,o,h1,h2,n,h3⟩:=(show ObjOk P w H h a (.tup (ks.map kV)) from ok a _ e)
 exact ⟨o,its.toArray,n,h1,h2,h3,by simpa using items_are r⟩
theorem dt_rd {kvs:List (List Key × V)} (ok:HOk P w H h) (e:Rd H a (.dT kvs)):kvs.length <= sizeLine/\(a == sysModules)=false /\
  ∃ xs,KT H kvs xs/\h.DictOfH (tupleKind (mixKind P w)) a xs:=by
 obtain ⟨z,y,xs,r,o,es,ep,h1,h2,h3,h4,h5⟩:=(show ObjOk P w H h a (.dT kvs) from rd_of ok e)
 refine ⟨z,y,xs,r,o,es,ep,h1,h2,h3,h4,fun x hx=>?_,h5⟩
 have all:∀ {l:List (List Key × V)} {m:List (List Key × Addr × Value)},KT H l m->∀ x ∈ m,(tupleKind (mixKind P w)).is h x.1 x.2.1:=by
  intro l m q
  induction q with
  | nil=>intro x hx;exact nomatch hx
  | @cons p q ps qs hq t ih=>
   intro x hx
   rcases List.mem_cons.mp hx with e | hx
   ·subst e
    exact key_of ok (by rw [<- hq.1];exact hq.2.1)
   ·exact ih x hx
 exact all r x hx
theorem dt_of {kvs:List (List Key × V)} (ok:HOk P w H h) (e:H a=some (.dT kvs)):kvs.length <= sizeLine/\(a == sysModules)=false /\
  ∃ xs,KT H kvs xs/\h.DictOfH (tupleKind (mixKind P w)) a xs:=dt_rd ok (.inl e)
end
def DGet (H:Hp) (a:Addr) (y:V) (r:Option V):Prop:=
 (∃ kvs k,Rd H a (.dK kvs)/\y=kV k/\r=valV kvs k) \/ ∃ kvs k b,Rd H a (.dT kvs)/\y=.ref b/\H b=some (.tup (k.map kV))/\r=valV kvs k
def DPut (H:Hp) (a:Addr) (y v:V) (H':Hp):Prop:=
 (∃ kvs k,H a=some (.dK kvs)/\y=kV k/\kvs.length < sizeLine/\H'=upd H a (.dK (putK kvs k v))) \/
 ∃ kvs k b,H a=some (.dT kvs)/\y=.ref b/\H b=some (.tup (k.map kV))/\kvs.length < sizeLine/\H'=upd H a (.dT (putK kvs k v))
section
variable {X:Cx} {pins:List (Addr × Obj)} {σ:St} {H:Hp} {s:Shared} {a:Addr} {y v:V} {u r:Value} {o:Option V} {A:Around} {E:Value->Shared->Prop}
theorem Inv.big (I:Inv X pins σ H s):sysModules < s.heap.objs.size:=by
 have h:mainGlobals < s.heap.objs.size:=(I.mod.glob.keeps I.bk).lt
 exact Nat.lt_trans (by decide) h
theorem d_getItem {Q:Value->Shared->Prop} (hu:A.units + 1 < cLine) (I:Inv X pins σ H s) (g:DGet H a y (some v)) (ry:RelV y u) (h:∀ w' s',Inv X pins σ H s'->RelV v w'->Q w' s') :
  wpAny (model X.prog X.w) A (getItem (.ref a) u) Q E s:=by
 rcases g with ⟨kvs,k,e,ey,l⟩ | ⟨kvs,k,b,e,ey,eb,l⟩
 ·subst ey
  obtain ⟨z,hd,vs,rel,dd⟩:=dk_rd I.hok e
  obtain ⟨w',hw,rw'⟩:=RelO.some_of (v:=v) (o:=valueAt vs k) (by rw [l];exact rel.val k)
  exact wpAny_getItem_of (kV_is ry) dd.mapOf hw (h w' _ (I.tok _) rw')
 ·subst ey
  cases (show u=Value.ref b from ry)
  obtain ⟨z,hd,xs,rel,dd⟩:=dt_rd I.hok e
  obtain ⟨w',hw,rw'⟩:=RelO.some_of (v:=v) (o:=(atKey xs k).map (·.2)) (by rw [l];exact rel.val k)
  obtain ⟨p,hp,hp2⟩:=Option.map_eq_some_iff.mp hw
  refine wpAny_getItem_heap (tupleKind_room_in1 hu) (key_of I.hok eb) dd hp ?_
  rw [hp2]
  exact h w' _ (I.tok _) rw'
theorem d_write {h':Heap} {t':Nat} {ob:HO} (I:Inv X pins σ H s) (mu:Mut (H a)) (hs:Heap.SameBut a s.heap h') (he:∃ q,h'.get? a=some q) (new:ObjOk X.prog X.w (upd H a ob) h' a ob) :
  Inv X pins σ (upd H a ob) { s with heap:=h',toks:=t' }:=
 I.write (x:=a) (e:=a) mu (.inl rfl) (fun b q hb z=>(hs.2 b hb).trans z) he new
theorem dk_new {P:Program} {w:World} {H':Hp} {h':Heap} {kvs:List (Key × V)} {vs:List (Key × Value)} (z:kvs.length <= sizeLine) (hd:(a == sysModules)=false) (rel:KV kvs vs) (dd:h'.DictOf (mixKind P w) a vs) :
  ObjOk P w H' h' a (.dK kvs):=⟨z,hd,vs,rel,dd⟩
theorem d_setItem {H':Hp} {Q:Unit->Shared->Prop} (hu:A.units + 1 < cLine) (I:Inv X pins σ H s) (g:DPut H a y v H') (ry:RelV y u) (rv:RelV v r) (h:∀ s',Inv X pins σ H' s'->Q () s') :
  wpAny (model X.prog X.w) A (setItem (.ref a) u r) Q E s:=by
 rcases g with ⟨kvs,k,e,ey,l,eH⟩ | ⟨kvs,k,b,e,ey,eb,l,eH⟩
 ·subst ey eH
  obtain ⟨z,hd,vs,rel,dd⟩:=dk_of I.hok e
  have hz:vs.length <= sizeLine:=by rw [<- rel.length];exact z
  have hl:(putK kvs k v).length <= sizeLine:=by have:=length_putK kvs k v;omega
  refine wpAny_setItem_pairs (hsz:=hz) (kV_is ry) dd fun h' dd' hs=>h _ ?_
  have he:∃ q,h'.get? a=some q:=let ⟨q,_,_,hq,_⟩:=dd';⟨q,hq⟩
  exact d_write I (by rw [e];exact True.intro) hs he (dk_new hl hd (rel.put k rv) dd')
 ·subst ey eH
  cases (show u=Value.ref b from ry)
  obtain ⟨z,hd,xs,rel,dd⟩:=dt_of I.hok e
  have hz:xs.length <= sizeLine:=by rw [<- Paired.length rel];exact z
  have hl:(putK kvs k v).length <= sizeLine:=by have:=length_putK kvs k v;omega
  refine wpAny_setItem_heap (hsz:=hz) (tupleKind_room_in1 hu) (key_of I.hok eb) dd fun h' dd' hs=>h _ ?_
  obtain ⟨q,es,ep,hq,h2,h3,h4,_,h5⟩:=dd'
  refine d_write I (by rw [e];exact True.intro) hs ⟨q,hq⟩ ⟨hl,hd,_,(rel.put k eb rv).keeps fun c ys ec=>?_,q,es,ep,hq,h2,h3,h4,h5⟩
  rw [upd_ne (ne_of ec e (fun z=>nomatch z))]
  exact ec
end
section
variable {X:Cx} {pins:List (Addr × Obj)} {σ:St} {H:Hp} {s:Shared} {a:Addr} {kvs:List (Key × V)} {k:Key} {u:Value} {A:Around} {E:Value->Shared->Prop}
end
def NoSl (i:Expr):Prop:=∀ ov iv,subscripted i false ov iv=operate [ov,iv] (getItem ov iv)
theorem subD_of {prog:Program} {w:World} {A:Around} {E:Value->Shared->Prop} {s:Shared} {env:Env} {value slice:Expr} {pos:Pos} {T id:String} {Q:Value->Shared->Prop}
  (hl:typeLookup (.type T) "__getitem__"=pure (some (.builtin id))) (hs:NoSl slice)
  (h:wpAny (model prog w) A (eval value env) (fun o s₁=>wpAny (model prog w) A (eval slice env) (fun i s₂=>s₂.TypeIs o T/\wpAny (model prog w) A (getItem o i) Q E s₂) E s₁) E s) :
  wpAny (model prog w) A (eval (.Subscript value slice pos) env) Q E s:=by
 refine Subscript_ (wpAny_mono h (fun o s₁ h₁=>wpAny_mono h₁ (fun i s₂ h₂=>?_) fun _ _ x=>x) fun _ _ x=>x)
 obtain ⟨hT,h₂⟩:=h₂
 unfold subscriptTail
 refine wpAny_bind ?_
 rw [getitemInPython_of_ne hT.not_modules]
 refine wpAny_bind (wpAny_specialOf hT hl ?_)
 have fin:wpAny (model prog w) A (subscripted slice false o i) (fun r s₃=>wpAny (model prog w) A (letTemporaryGo value o r >>= fun _=>pure r) Q E s₃) E s₂:=by
  rw [hs o i]
  exact wpAny_operating (wpAny_mono h₂ (fun r s₃ h₃=>wpAny_bind (wpAny_letTemporaryGo (wpAny_pure h₃))) fun _ _ x=>x)
 first
  | exact wpAny_pure (wpAny_bind fin)
  | exact wpAny_bind (wpAny_pure (wpAny_bind fin))
  | exact wpAny_bind fin
theorem dict_typeIs {X:Cx} {pins:List (Addr × Obj)} {σ:St} {H:Hp} {s:Shared} {a:Addr} {y:V} {o:Option V} (I:Inv X pins σ H s) (g:DGet H a y o):s.TypeIs (.ref a) "dict":=by
 rcases g with ⟨kvs,k,e,_,_⟩ | ⟨kvs,k,b,e,_,_,_⟩
 ·obtain ⟨_,_,vs,_,dd⟩:=dk_rd I.hok e
  exact dd.typeIs
 ·obtain ⟨_,_,xs,_,dd⟩:=dt_rd I.hok e
  exact dd.typeIs
def tDGet (td ty:TE):TE:=fun σ H Q=>td σ H fun x H1=>ty σ H1 fun y H2=>∃ a v,x=.ref a/\DGet H2 a y (some v)/\Q v H2
def sDPut (td ty tv:TE):TS:=fun D σ H=>tv σ H fun v H1=>td σ H1 fun x H2=>ty σ H2 fun y H3=>∃ a H4,x=.ref a/\DPut H3 a y v H4/\D.nx σ H4
section
variable {X:Cx} {o i e value:Expr} {pos pos' tpos:Pos} {td ty tv:TE}
theorem pe_dget (hu:X.A.units + 1 < cLine) (ho:PE X o td) (hi:PE X i ty) (hs:NoSl i):PE X (.Subscript o i pos) (tDGet td ty):=by
 intro pins s σ H Q I h
 refine subD_of PySem.F.slot_dict_getitem.lookup hs (thn (ho pins s σ H _ I h) fun u s1 hz36=>?_)
 obtain ⟨x,H1,I1,rx,q1⟩:=hz36
 refine thn (hi pins s1 σ H1 _ I1 q1) fun iv s2 hz37=>?_
 obtain ⟨y,H2,I2,ry,a,v,ex,g,q2⟩:=hz37
 subst ex
 obtain rfl:u=Value.ref a:=rx
 exact ⟨dict_typeIs I2 g,d_getItem hu I2 g ry fun w' s3 I3 rw'=>⟨v,H2,I3,rw',q2⟩⟩
theorem ps_dput (hu:X.A.units + 1 < cLine) (ho:PE X o td) (hi:PE X i ty) (hv:PE X value tv) (hs:swapsWith value (some (.Subscript o i pos')) pos.line X.env=pure false) :
  PS X (.Assign [.Subscript o i pos'] value pos) (sDPut td ty tv):=by
 intro pins s σ H D I h
 refine wpAny_Assign_Subscript (thn (hv pins s σ H _ I h) fun r s1 hz38=>?_) hs
 obtain ⟨v,H1,I1,rv,q1⟩:=hz38
 refine thn (ho pins s1 σ H1 _ I1 q1) fun u s2 hz39=>?_
 obtain ⟨x,H2,I2,rx,q2⟩:=hz39
 refine thn (hi pins s2 σ H2 _ I2 q2) fun iv s3 hz40=>?_
 obtain ⟨y,H3,I3,ry,a,H4,ex,g,q3⟩:=hz40
 subst ex
 obtain rfl:u=Value.ref a:=rx
 exact d_setItem hu I3 g ry rv fun s4 I4=>⟨σ,H4,I4,q3⟩
end
theorem dk_empty {P:Program} {w:World} {H:Hp} (h:Heap) (hb:sysModules < h.objs.size):ObjOk P w H (h.push { cls:=.type "dict",data:=.dict #[] }) h.objs.size (.dK []):=
 ⟨Nat.zero_le _,beq_eq_false_iff_ne.mpr (Ne.symm (Nat.ne_of_lt hb)),[],.nil,Heap.DictOf.new h⟩
def tDNewK:TE:=fun _ H Q=>∀ p,H p=none->Q (.ref p) (upd H p (.dK []))
section
variable {X:Cx} {pos:Pos}
theorem pe_dnewK:PE X (.Dict [] [] pos) tDNewK:=fun pins s σ H Q I h=>
 wpAny_Dict_empty ⟨.ref s.heap.objs.size,_,I.laid (a:=s.heap.objs.size) (o:=.dK []) (t':=s.toks) (fun _ _ q=>Heap.get?_push_of_some _ q) (Nat.le_refl _) (dk_empty s.heap I.big),rfl,h _ (I.hok.fresh (Nat.le_refl _))⟩
end
def tPairs:List (TE × TE)->St->Hp->(List (V × V)->Hp->Prop)->Prop
 | [],_,H,Q=>Q [] H
 | (tk,tv) :: r,σ,H,Q=>tk σ H fun x H1=>tv σ H1 fun y H2=>tPairs r σ H2 fun ps H3=>Q ((x,y) :: ps) H3
abbrev VV:List (V × V)->List (Value × Value)->Prop:=Paired fun p q=>RelV p.1 q.1/\RelV p.2 q.2
def PPs (X:Cx) (pos:Pos) (keys:List (Option Expr)) (values:List Expr) (trs:List (TE × TE)):Prop:=
 ∀ (pins:List (Addr × Obj)) (s:Shared) (σ:St) (H:Hp) (Q:List (V × V)->Hp->Prop),Inv X pins σ H s->tPairs trs σ H Q ->
  wpAny (model X.prog X.w) X.A (evalPairs (pairTrees keys values X.env pos)) (fun vs s'=>∃ ps H',Inv X pins σ H' s'/\VV ps vs/\Q ps H') X.xe s
theorem pps_nil {X:Cx} {pos:Pos}:PPs X pos [] [] []:=fun pins s σ H Q I h=>pairTrees_nil_walk ⟨[],H,I,.nil,h⟩
theorem pps_cons {X:Cx} {pos:Pos} {k v:Expr} {ks:List (Option Expr)} {vs:List Expr} {tk tv:TE} {trs:List (TE × TE)} (hk:PE X k tk) (hv:PE X v tv) (hr:PPs X pos ks vs trs) :
  PPs X pos (some k :: ks) (v :: vs) ((tk,tv) :: trs):=fun pins s σ H Q I h=>
 pairTrees_cons_walk (thn (hk pins s σ H _ I h) fun u s1 ⟨x,H1,I1,rx,q1⟩=>thn (hv pins s1 σ H1 _ I1 q1) fun w2 s2 ⟨y,H2,I2,ry,q2⟩=>
  thn (hr pins s2 σ H2 _ I2 q2) fun ws s3 ⟨ps,H3,I3,rel,q3⟩=>⟨(x,y) :: ps,H3,I3,.cons ⟨rx,ry⟩ rel,q3⟩)
def mergeK (kvs more:List (Key × V)):List (Key × V):=more.foldl (fun acc kv=>putK acc kv.1 kv.2) kvs
theorem KV.merge:∀ {more:List (Key × V)} {rs:List (Key × Value)} {kvs:List (Key × V)} {vs:List (Key × Value)},KV more rs->KV kvs vs->KV (mergeK kvs more) (merged vs rs):=by
 intro more rs kvs vs r
 unfold KV at r
 induction r generalizing kvs vs with
 | nil=>intro q;exact q
 | @cons p q ps qs h t ih=>
  intro r0
  have e:KV (putK kvs p.1 p.2) (stored vs q.1 q.2):=by
   have:=r0.put p.1 h.2
   rw [<- h.1];exact this
  exact ih e
theorem length_mergeK:∀ (more kvs:List (Key × V)),(mergeK kvs more).length <= kvs.length + more.length
 | [],kvs=>by show kvs.length <= kvs.length + 0;omega
 | p :: r,kvs=>by
  have h1:=length_mergeK r (putK kvs p.1 p.2)
  have h2:=length_putK kvs p.1 p.2
  show (mergeK (putK kvs p.1 p.2) r).length <= _
  rw [List.length_cons];omega
theorem carries_of {P:Program} {w:World}:∀ {kvs:List (Key × V)} {ws:List (Value × Value)},VV (kvs.map fun kv=>(kV kv.1,kv.2)) ws->∃ rs,Carries (mixKind P w) ws rs/\KV kvs rs
 | [],_,r=>by rw [List.map_nil] at r;cases r;exact ⟨[],True.intro,.nil⟩
 | p :: kvs,_,r=>by
  rw [List.map_cons] at r
  cases r with
  | @cons a b as bs h t=>
   obtain ⟨rs,c,q⟩:=carries_of (P:=P) (w:=w) t
   obtain ⟨b1,b2⟩:=b
   exact ⟨(p.1,b2) :: rs,⟨kV_is h.1,rfl,c⟩,.cons ⟨rfl,h.2⟩ q⟩
def tDisp (trs:List (TE × TE)):TE:=fun σ H Q=>∀ p,H p=none->tPairs trs σ (upd H p (.dK [])) fun ps H2=>H2 p=some (.dK [])/\∃ kvs:List (Key × V),ps=kvs.map (fun kv=>(kV kv.1,kv.2))/\kvs.length <= 15/\Q (.ref p) (upd H2 p (.dK (mergeK [] kvs)))
theorem pe_disp {X:Cx} {pos:Pos} {keys:List (Option Expr)} {values:List Expr} {trs:List (TE × TE)} (h:PPs X pos keys values trs) (hall:keys.all (·.isSome)=true) (hl:keys.length=values.length) (h0:keys ≠ [])
  (h15:keys.length <= 15):PE X (.Dict keys values pos) (tDisp trs):=by
 intro pins s σ H Q I q
 have hn:=I.hok.fresh (Nat.le_refl s.heap.objs.size)
 have I1:=I.laid (a:=s.heap.objs.size) (o:=.dK []) (h':=s.heap.push { cls:=.type "dict",data:=.dict #[] }) (t':=s.toks) (fun _ _ q=>Heap.get?_push_of_some _ q) (Nat.le_refl _) (dk_empty s.heap I.big)
 refine wpAny_Dict_walk (knd:=mixKind X.prog X.w) hall hl h0 h15 (thn (h pins _ σ _ _ I1 (q _ hn)) fun ws s2 hz41=>?_)
 obtain ⟨ps,H2,I2,rel,e,kvs,ep,lk,q2⟩:=hz41
 subst ep
 obtain ⟨rs,c,rk⟩:=carries_of (P:=X.prog) (w:=X.w) rel
 obtain ⟨z,hd,vs0,r0,dd⟩:=dk_of I2.hok e
 cases r0
 refine ⟨rs,c,dd,fun h' dd' hs=>⟨.ref s.heap.objs.size,_,?_,rfl,q2⟩⟩
 have hz:(mergeK [] kvs).length <= sizeLine:=by
  have h1:=length_mergeK kvs []
  rw [List.length_nil] at h1
  rw [sizeLine_eq];omega
 have he:∃ q,h'.get? s.heap.objs.size=some q:=let ⟨q,_,_,hq,_⟩:=dd';⟨q,hq⟩
 exact d_write I2 (by rw [e];exact True.intro) hs he (dk_new hz hd (rk.merge .nil) dd')
section
variable {X:Cx} {pins:List (Addr × Obj)} {σ:St} {H:Hp} {s:Shared} {a:Addr} {y d:V} {u r:Value} {o:Option V} {A:Around} {E:Value->Shared->Prop}
end
section
variable {X:Cx} {o e f:Expr} {apos cpos:Pos} {td ty tx:TE}
end
section
variable {X:Cx} {pins:List (Addr × Obj)} {σ:St} {H:Hp} {s:Shared} {a:Addr} {kvs:List (Key × V)} {A:Around} {E:Value->Shared->Prop}
end
section
variable {X:Cx} {pins:List (Addr × Obj)} {σ:St} {H:Hp} {s:Shared} {a:Addr} {y:V} {u:Value} {A:Around} {E:Value->Shared->Prop}
end
end L2
namespace Att
open PySem PySem.W PySem.Calls PyProof.Rows
theorem ints_of_wellAll {P:Params} {h:Heap}:∀ (ns:List Int) (vs:List Value),WellAll P h vs (ns.map WData.int)->IntsAre vs ns:=by
 intro ns
 induction ns with
 | nil=>
  intro vs w
  rw [List.map_nil] at w
  cases w
  exact .nil
 | cons n ns ih=>
  intro vs w
  rw [List.map_cons] at w
  cases w with
  | cons a b=>
   cases a
   exact .cons _ _ (ih _ b)
theorem script_of {l:OpenLaw} {n:Nat} (hn:l.most=some n) {P:Params} {h:Heap} {args:List WData} {vals:List Value}
  (hpre:l.row.toRowW.claim.pre args=true) (hwl:WellAll P h vals args) :
  ∃ a vs ns,vals=[Value.ref a]/\args=[WData.list (ns.map WData.int)]/\h.get? a=some { cls:=.type "list",data:=.seq vs.toArray }/\IntsAre vs ns/\ns.length <= n:=by
 have hsh:WShape.hasAll [] args [.list .int]=true:=(pre_splitW hpre).1
 have hc:l.pre.holds [] { args:=args }=true:=(pre_splitW hpre).2
 obtain ⟨d,r,rfl,h1,h2⟩:=hasAllW_cons hsh
 obtain rfl:=hasAllW_nil h2
 obtain ⟨xs,rfl,h3⟩:=hasW_list h1
 obtain ⟨ns,rfl⟩:=items_int h3
 have hlen:ns.length <= n:=by
  unfold OpenLaw.pre at hc
  have h4:(WTm.not (.lt (.lit (.int (n:Int))) (.len (.arg 0)))).holds [] { args:=[.list (ns.map .int)] }=true:=by
   have h4:=(holds_andW hc).1
   rw [hn] at h4
   exact h4
  have h5:=condW_of h4 (w_not (w_lt w_lit (w_len_list (w_arg rfl))))
  rw [List.length_map] at h5
  refine Nat.le_of_not_lt fun q=>?_
  have q':(n:Int) < ((ns.length:Nat):Int):=by omega
  first
   | (rw [decide_eq_true q'] at h5;exact absurd h5 (by decide))
   | (simp at h5;omega)
 cases hwl with
 | cons w1 w2=>
  cases w2
  cases w1 with
  | list ho hall=>exact ⟨_,_,ns,rfl,rfl,ho,ints_of_wellAll ns _ hall,hlen⟩
theorem post_true (l:OpenLaw) (args:List WData):l.row.toRowW.claim.post args (.bool true) args=true:=
 postW_of (r:=l.row.toRowW) (X:=(true == true))
  (show WShape.has [] (.bool true) .bool=true by first | rfl | decide | simp [WShape.has,WShape.arms,WShape.armsAll])
  (show (WTm.eq .res (.lit (.bool true))).value [] { args:=args,res:=some (.bool true),after:=args }=some (.bool (true == true)) from w_eq_bool (w_res rfl) w_lit) rfl
theorem attach_call {l:OpenLaw} {n:Nat} {q:Program} {loose:List Str} {XP:(Str->Option Value)->Heap->Prop} {YP:World->Heap->Prop} {d:DefRec}
  (hn:l.most=some n) (hdf:d.params.defaults=[])
  (call:∀ (w:World) (s₀ s₁:Shared) (mg mb:Str->Option Value) (fa:Addr) (o:Obj) (pm cd doc:Value) (a:Addr) (vs:List Value) (ns:List Int),
   Ground q loose [] XP w s₀ mg mb s₁.heap->YP w s₁.heap ->
   s₁.heap.get? fa=some o->o.data=.func (docDef d.name d.params d.body d.scope pm cd doc)->s₁.heap.CodeRec cd d.name->mg d.name=some (.ref fa) ->
   s₁.heap.get? a=some { cls:=.type "list",data:=.seq vs.toArray }->IntsAre vs ns->ns.length <= n->s₁.gens = #[] ->
   codeAny (model l.prog w) callerA (.call (.ref fa) ⟨[.ref a],[]⟩) (fun r s'=>r=.ok (.ret (.bool true))/\OldK s₁.heap s'.heap/\s'.os=s₁.os/\AllBare s'.gens) s₁) :
  WalkO q loose XP YP l.row.toRowW d [] (fun f vs=>PySem.call f vs):=by
 intro w s₀ s₁ mg mb G Y fa o pm cd doc dV kV ho hd hcd hD hmg hg args vals as hpre hlay hrd hwl hlo
 obtain rfl:dV=.none:=Dflts.none hD hdf
 obtain rfl:kV=.none:=Dflts.noKw hD
 obtain ⟨a,vs,ns,rfl,rfl,hobj,hints,hlen⟩:=script_of hn hpre hwl
 refine enter_call (codeAny_mono (call w s₀ s₁ mg mb fa o pm cd doc a vs ns G Y ho (fd_plain hd) hcd hmg hobj hints hlen hg) fun r s' hq=>?_)
 obtain ⟨rfl,h2,h3,h4⟩:=hq
 exact ⟨.inl ⟨.bool true,.bool true,[],rfl,fun _=>rfl,.bool true,post_true l _,fun _=>⟨List.Pairwise.nil,fun _ hm=>(nomatch hm)⟩⟩,h2,h3,h4⟩
section
variable {prog:Program} {w:World} {A:Around} {E:Value->Shared->Prop} {s:Shared} {K:Frag}
end
end Att
namespace L2
open PySem PySem.Spec PyProof.Rows
theorem vals_ints {vs:List Value} {ns:List Int} (h:IntsAre vs ns):Vals (ns.map V.int) vs:=by
 induction h with
 | nil=>exact .nil
 | cons n t _ ih=>exact .cons ⟨t,rfl⟩ ih
def Only (H:Hp):Prop:=∀ b,H b=none \/ ∃ o xs,H b=some (.frz o (.lst xs))
theorem law_call {P:Program} {w:World} {K:PySem.W.Frag} {mg mb:Str->Option Value} {CX:CXT} {k:Nat} {fa a:Addr} {fd:FuncData} {x:Str} {sp:Sp} {s₁:Shared} {vs:List Value} {ns:List Int}
  (KX:K.In s₁.heap) (hns:s₁.heap.Ns mainGlobals mg) (hb:s₁.heap.Ns builtinsNs mb) (hbb:∀ x:Str,x ≠ "__name__"->mb x=bootBuiltins x) (hlim:s₁.heap.NoLimit) (hg:s₁.gens = #[])
  (ha:s₁.heap.get? a=some { cls:=.type "list",data:=.seq vs.toArray }) (hi:IntsAre vs ns) (hl:ns.length <= sizeLine) (hr:Room k callerA)
  (F:∀ base:Heap,K.In base->base.Ns mainGlobals mg->FnOk P w K mg base CX k fa fd [x] sp) (hbind:∀ (s:Shared) (u:Value),BindsTo s fd ⟨[u],[]⟩ [(x,u)])
  (hsp:∀ H:Hp,Only H->SqL K H a (ns.map V.int)->sp [.ref a] H (fun v _=>v=.bl true) fun _ _ _=>False)
  (hCX:∀ H e s',CX [] H s₁ (fun _ _ _=>False) e s'->False) :
  codeAny (model P w) callerA (.call (.ref fa) ⟨[.ref a],[]⟩) (fun r s'=>r=.ok (.ret (.bool true))/\OldK s₁.heap s'.heap/\s'.os=s₁.os/\AllBare s'.gens) s₁:=by
 have rv:=vals_ints hi
 have lenV:=hi.length
 have core:∀ H:Hp,Only H->SqL K H a (ns.map V.int)->HOk P w H s₁.heap->(∀ b,H b ≠ none->b=a)->(H a ≠ none->K.lookup a=none) ->
   codeAny (model P w) callerA (.call (.ref fa) ⟨[.ref a],[]⟩) (fun r s'=>r=.ok (.ret (.bool true))/\OldK s₁.heap s'.heap/\s'.os=s₁.os/\AllBare s'.gens) s₁:=by
  intro H hO hS hok hA hK
  have base_of:∀ {b:Addr} {o:Obj},s₁.heap.get? b=some o->H b=none->(hidT s₁.heap H).get? b=some o:=fun e n=>hidT_get e n
  have noA:∀ {b:Addr} {o:Obj} {es:Array DictEntry} {ep:Nat},s₁.heap.get? b=some o->o.data=.dict es ep->H b=none:=fun {b o es ep} e d=>by
   cases q:H b with
   | none=>rfl
   | some u=>
    have e':b=a:=hA b (by rw [q];simp)
    subst e'
    rw [ha] at e;cases e
    have d':Data.seq vs.toArray _=Data.dict es ep:=d
    cases d'
  have nsK:∀ {b:Addr} {m:Str->Option Value},s₁.heap.Ns b m->(hidT s₁.heap H).Ns b m:=fun {b m} ⟨o,es,ep,e,d,r⟩=>⟨o,es,ep,base_of e (noA e d),d,r⟩
  have hKb:K.In (hidT s₁.heap H):=fun b o e=>base_of (KX b o e) (by
   cases q:H b with
   | none=>rfl
   | some u=>
    have e':b=a:=hA b (by rw [q];simp)
    subst e'
    rw [hK (by rw [q];simp)] at e;cases e)
  have hM:Mod K mg (hidT s₁.heap H):=⟨hKb,nsK hns,⟨mb,nsK hb,hbb⟩,let ⟨mc,h1,h2⟩:=hlim;⟨mc,nsK h1,h2⟩⟩
  have e0:Env0 P w K mg (hidT s₁.heap H) callerA [] s₁ H:=⟨rfl,hM,fun b o e=>of_hidT e,Nat.le_of_eq (hidT_size _ _),trivial,fun b hb=>absurd (show b ∈ ([]:List Addr) from hb) (by simp),hok,.of_eq hg⟩
  refine codeAny_mono ((F _ hKb (nsK hns)).run callerA [] s₁ H ⟨[.ref a],[]⟩ [.ref a] [.ref a] _ _ hr e0 (hbind s₁ (.ref a)) (.cons rfl .nil) (hsp H hO hS)) fun r s' h=>?_
  cases r with
  | error e=>exact (hCX H e s' h).elim
  | ok fl=>
   cases fl with
   | next=>exact False.elim h
   | brk=>exact False.elim h
   | cont=>exact False.elim h
   | ret u=>
    obtain ⟨v,H',os,bare,un,hok',r',q⟩:=h
    have q':v=.bl true:=q
    subst q'
    obtain rfl:u=Value.bool true:=r'
    refine ⟨rfl,OldK.of_keep fun b o e=>?_,os,bare⟩
    cases q:H b with
    | none=>exact un.keep b o e q (by intro z;exact absurd (show b ∈ ([]:List Addr) from z) (by simp)) (by simp)
    | some u=>
     rcases hO b with z | ⟨ob,xs,z⟩
     ·rw [q] at z;cases z
     ·have z2:=un.frzs b ob _ z
      obtain ⟨e1,_⟩:=hok b _ z
      obtain ⟨e2,_⟩:=hok' b _ z2
      rw [e] at e1;cases e1
      exact e2
 cases hk:K.lookup a with
 | some o=>
  have e:=KX a o hk
  rw [ha] at e
  cases e
  refine core (fun _=>none) (fun _=>.inl rfl) (.inr ⟨_,vs.toArray,_,hk,rfl,rfl,rfl,by rw [List.size_toArray,lenV];exact hl,by simpa using rv⟩) (fun b u z=>by have z':(none:Option HO)=some u:=z;cases z') (fun b z=>absurd rfl z) fun z=>absurd rfl z
 | none=>
  refine core (fun b=>if b=a then some (.frz { cls:=.type "list",data:=.seq vs.toArray } (.lst (ns.map V.int))) else none) (fun b=>?_) (.inl (.inr ⟨{ cls:=.type "list",data:=.seq vs.toArray },if_pos rfl⟩)) (fun b u z=>?_) (fun b z=>?_) fun _=>hk
  ·by_cases hb:b=a
   ·exact .inr ⟨_,_,if_pos hb⟩
   ·exact .inl (if_neg hb)
  ·by_cases hb:b=a
   ·have z':=(if_pos hb).symm.trans z
    cases z'
    subst hb
    exact ⟨ha,by rw [List.length_map];exact hl,vs,_,rv,ha⟩
   ·have z':=(if_neg hb).symm.trans z
    cases z'
  ·by_cases hb:b=a
   ·exact hb
   ·exact absurd (if_neg hb) z
end L2
namespace L2
open PySem PySem.Spec PyProof.Rows
theorem walk_of {l:PySem.W.OpenLaw} {n k:Nat} {q:Program} {loose:List Str} {XP:(Str->Option Value)->Heap->Prop} {YP:World->Heap->Prop} {d:DefRec} {K:Params->PySem.W.Frag} {CX:World->CXT} {sp:World->Sp} {x:Str}
  (hn:l.most=some n) (hn2:n <= sizeLine) (hdf:d.params.defaults=[]) (hr:Room k callerA)
  (hY:∀ (w:World) (h:Heap),YP w h->(K w.params).In h)
  (F:∀ (w:World) (mg:Str->Option Value) (fa:Addr) (h:Heap),(K w.params).In h->h.Ns mainGlobals mg->mg d.name=some (.ref fa) ->
   ∃ fd:FuncData,(∀ (s:Shared) (u:Value),BindsTo s fd ⟨[u],[]⟩ [(x,u)]) /\
    ∀ base:Heap,(K w.params).In base->base.Ns mainGlobals mg->FnOk l.prog w (K w.params) mg base (CX w) k fa fd [x] (sp w))
  (hsp:∀ (w:World) (H:Hp) (a:Addr) (ns:List Int),ns.length <= n->Only H->SqL (K w.params) H a (ns.map V.int)->sp w [.ref a] H (fun v _=>v=.bl true) fun _ _ _=>False)
  (hCX:∀ (w:World) (H:Hp) (s:Shared) (e:Value) (s':Shared),CX w [] H s (fun _ _ _=>False) e s'->False) :
  PySem.W.WalkO q loose XP YP l.row.toRowW d [] (fun f vs=>PySem.call f vs):=by
 refine Att.attach_call hn hdf fun w s₀ s₁ mg mb fa o pm cd doc a vs ns G Y ho hd hcd hmg hobj hints hlen hg=>?_
 have KX:=hY w _ Y
 obtain ⟨fd,hb,hF⟩:=F w mg fa _ KX G.T.g hmg
 exact law_call KX G.T.g G.T.b G.T.builtins G.T.nolimit hg hobj hints (Nat.le_trans hlen hn2) hr hF hb (fun H hO hS=>hsp w H a ns hlen hO hS) fun H e s'=>hCX w H s₁ e s'
end L2
namespace L2
open PySem PySem.Spec PyProof.Rows
def inClass (s:Stmt) (j:Nat):Stmt:=match s with
 | .ClassDef _ _ _ body _ _ _ _ _ _ _=>body.getD j (.Pass ⟨0,0,0,0⟩)
 | _=>.Pass ⟨0,0,0,0⟩
def defArgs (s:Stmt):Arguments:=match s with
 | .FunctionDef _ a _ _ _ _ _ _ _ _=>a
 | _=>{ posonlyargs:=[],args:=[],vararg:=none,kwonlyargs:=[],kw_defaults:=[],kwarg:=none,defaults:=[] }
def defBody (s:Stmt):List Stmt:=match s with
 | .FunctionDef _ _ b _ _ _ _ _ _ _=>b
 | _=>[]
def defScope (s:Stmt):Scope:=match s with
 | .FunctionDef _ _ _ _ _ _ sc _ _ _=>sc
 | _=>{ kind:=.function,names:=[],isGenerator:=false,isCoroutine:=false }
abbrev CX0:CXT:=fun _ _ _ _ _ _=>False
abbrev E0:XK:=fun _ _ _=>False
theorem pass0 {X:Cx}:Passes CX0 X E0:=fun _ _ _ _ _ _ _ h=>h.elim
structure Fun (K:PySem.W.Frag) (x qual:Str) (st:Stmt) (f:Addr) (fd:FuncData):Prop where
 ex:∃ (oc:Value) (od:Option Addr) (kV doc pm:Value) (an:Option Addr) (cdv ct:Value) (osl:Array (Option Value)),
  fd=PySem.W.fnOf x qual (defArgs st) (defBody st) (defScope st) .none kV doc pm an cdv ct/\K.lookup f=some ⟨oc,od,.func fd,osl⟩/\PySem.W.codeIn K cdv qual=true
 kp:PySem.W.keepIn K (.ref f)=true
section
variable {P:Program} {w:World} {K:PySem.W.Frag} {mg:Str->Option Value} {base:Heap}
theorem Fun.ok {x qual:Str} {st:Stmt} {f:Addr} {fd:FuncData} {N ps:List Str} {k:Nat} {sp:Sp} (F:Fun K x qual st f fd) (S:FnScope N ps (defScope st)) (len:∀ vs H Q E,sp vs H Q E->vs.length=ps.length)
  (hbody:∀ (cdv:Value) (A:Around) (outer:List Env) (s:Shared) (H:Hp) (vs:List V) (Q:VK) (E:XK),Room k (A.deeper (envOfC qual (defScope st) s.heap.objs.size f cdv))->sp vs H Q E ->
   ∃ t,PSs (cxOf CX0 P w K mg base N qual (defScope st) f cdv A outer s H E).nox (defBody st) t/\t { nx:=fun _ H'=>Q .non H',rt:=Q } (start N vs) H):FnOk P w K mg base CX0 (k + 1) f fd ps sp:=by
 obtain ⟨oc,od,kV,doc,pm,an,cdv,ct,osl,rfl,lk,hcd⟩:=F.ex
 refine fn_of lk hcd S len fun A outer s H vs Q E hr hsp=>?_
 obtain ⟨t,h,q⟩:=hbody cdv A outer s H vs Q E hr hsp
 exact ⟨t,h.nox,q⟩
theorem Fun.binds {x qual:Str} {st:Stmt} {f:Addr} {fd:FuncData} {ps:List Str} (F:Fun K x qual st f fd)
  (h:∀ (kV doc pm:Value) (an:Option Addr) (cdv ct:Value) (us:List Value),us.length=ps.length->bindArgs (PySem.W.fnOf x qual (defArgs st) (defBody st) (defScope st) .none kV doc pm an cdv ct) ⟨us,[]⟩=pure (ps.zip us)):Binds K fd ps []:=by
 obtain ⟨oc,od,kV,doc,pm,an,cdv,ct,osl,rfl,lk,hcd⟩:=F.ex
 exact .all (h kV doc pm an cdv ct)
theorem fun_mk {x qual:Str} {st:Stmt} {f:Addr} {oc:Value} {od an:Option Addr} {osl:Array (Option Value)} {kV doc pm cdv ct:Value} (l:K.lookup f=some ⟨oc,od,.func (PySem.W.fnOf x qual (defArgs st) (defBody st) (defScope st) .none kV doc pm an cdv ct),osl⟩)
  (c:PySem.W.codeIn K cdv qual=true) (k:PySem.W.keepIn K (.ref f)=true):Fun K x qual st f (PySem.W.fnOf x qual (defArgs st) (defBody st) (defScope st) .none kV doc pm an cdv ct):=⟨⟨oc,od,kV,doc,pm,an,cdv,ct,osl,rfl,l,c⟩,k⟩
end
theorem hu_of {A:Around} {k:Nat} (hr:Room k A):A.units + 1 < cLine:=Nat.lt_of_le_of_lt (Nat.add_le_add_left (by decide:1 <= 64) _) hr.units
theorem small1000 {n:Nat} (h:n <= 1000):n < sizeLine:=Nat.lt_of_le_of_lt h (by decide)
section
variable {X:Cx}
theorem pv (i:Nat) {x:Str} {pos:Pos} (hN:X.N[i]?=some x:=by rfl) (hv:Vis X.env.scope x:=by first | exact Or.inl rfl | exact Or.inr (Or.inl rfl) | exact Or.inr (Or.inr rfl)) (hd:(x == ("__debug__" : Str))=false:=by decide)
  (hcd:(x == ("__classdict__" : Str))=false:=by decide):PE X (.Name x pos) (tVar i):=pe_var hN hv hd hcd
end
theorem iteF {A B:Prop} (h:B):if false=true then A else B:=by
 rw [if_neg Bool.false_ne_true]
 exact h
theorem iteT {A B:Prop} (h:A):if true=true then A else B:=by
 rw [if_pos rfl]
 exact h
theorem ite2 {c A B:Prop} [Decidable c] (h1:c->A) (h2:¬ c->B):if c then A else B:=by
 by_cases h:c
 ·rw [if_pos h]
  exact h1 h
 ·rw [if_neg h]
  exact h2 h
def Same (H H':Hp):Prop:=∀ b o,H b=some o->H' b=some o
theorem Same.seq {K:PySem.W.Frag} {H H':Hp} {a:Addr} {xs:List V} (e:Same H H') (h:SqL K H a xs):SqL K H' a xs:=by
 rcases h with (h | ⟨o,h⟩) | h
 ·exact .inl (.inl (e _ _ h))
 ·exact .inl (.inr ⟨o,e _ _ h⟩)
 ·exact .inr h
end L2
set_option maxHeartbeats 4000000
namespace L2
open PySem PySem.Spec PyProof.Rows
def clF (env:Env):List (Str × NameKind)->List (Str × Addr)->List (Str × Addr)
 | [],cs=>cs
 | (n,k) :: r,cs=>clF env r (if k == NameKind.free then (n,(env.cells.lookup n).getD 0) :: cs else cs)
theorem clF_run (env:Env):∀ (l:List (Str × NameKind)) (cs:List (Str × Addr)),(∀ n,(n,NameKind.free) ∈ l->(env.cells.lookup n).isSome=true) ->
  (forIn l cs fun x r=>(match x with
   | (name,kind)=>if (kind == NameKind.free)=true then (do let c <- cellOf env name;pure (ForInStep.yield ((name,c) :: r))) else pure (ForInStep.yield r):Sem (ForInStep (List (Str × Addr)))))=pure (clF env l cs):=by
 intro l
 induction l with
 | nil=>intro cs _;rfl
 | cons x l ih=>
  intro cs h
  obtain ⟨n,k⟩:=x
  rw [List.forIn_cons]
  by_cases hk:k=NameKind.free
  ·subst hk
   have h1:=h n List.mem_cons_self
   obtain ⟨c,hc⟩:=Option.isSome_iff_exists.mp h1
   simp only [beq_self_eq_true,if_true,clF,hc,Option.getD_some,cellOf,pure_bind]
   exact ih _ fun m hm=>h m (List.mem_cons_of_mem _ hm)
  ·have hb:(k == NameKind.free)=false:=by simpa using hk
   simp only [hb,Bool.false_eq_true,if_false,clF,pure_bind]
   exact ih _ fun m hm=>h m (List.mem_cons_of_mem _ hm)
theorem closureFor_clF {scope:Scope} {env:Env} (h:∀ n,(n,NameKind.free) ∈ scope.names->(env.cells.lookup n).isSome=true) :
  closureFor scope env=pure (clF env scope.names []):=by
 have e:=clF_run env scope.names [] h
 unfold closureFor
 simp only [bind_pure] at e ⊢
 exact e
theorem clF_sub (env:Env):∀ (l:List (Str × NameKind)) (cs:List (Str × Addr)),(∀ n,(n,NameKind.free) ∈ l->(env.cells.lookup n).isSome=true) ->
  (∀ y c,cs.lookup y=some c->env.cells.lookup y=some c)->∀ y c,(clF env l cs).lookup y=some c->env.cells.lookup y=some c:=by
 intro l
 induction l with
 | nil=>intro cs _ h;exact h
 | cons x l ih=>
  intro cs h hc
  obtain ⟨n,k⟩:=x
  refine ih _ (fun m hm=>h m (List.mem_cons_of_mem _ hm)) ?_
  by_cases hk:k=NameKind.free
  ·subst hk
   obtain ⟨c,e⟩:=Option.isSome_iff_exists.mp (h n List.mem_cons_self)
   simp only [beq_self_eq_true,if_true,e,Option.getD_some]
   intro y c' q
   rw [List.lookup_cons] at q
   cases hy:y == n with
   | true=>
    rw [hy] at q
    have ey:y=n:=by simpa using hy
    cases q
    rw [ey];exact e
   | false=>
    rw [hy] at q
    exact hc y c' q
  ·have hb:(k == NameKind.free)=false:=by simpa using hk
   simp only [hb,Bool.false_eq_true,if_false]
   exact hc
theorem clF_has (env:Env):∀ (l:List (Str × NameKind)) (cs:List (Str × Addr)) (y:Str),((y,NameKind.free) ∈ l \/ (cs.lookup y).isSome=true)->((clF env l cs).lookup y).isSome=true:=by
 intro l
 induction l with
 | nil=>intro cs y h;exact h.elim (fun z=>by cases z) id
 | cons x l ih=>
  intro cs y h
  obtain ⟨n,k⟩:=x
  refine ih _ y ?_
  rcases h with h | h
  ·rcases List.mem_cons.mp h with e | e
   ·cases e
    right
    simp
   ·exact .inl e
  ·right
   by_cases hk:k=NameKind.free
   ·subst hk
    simp only [beq_self_eq_true,if_true,List.lookup_cons]
    cases hy:y == n <;> simp [h]
   ·have hb:(k == NameKind.free)=false:=by simpa using hk
    simp only [hb,Bool.false_eq_true,if_false]
    exact h
theorem relabel_kind {scope:Scope} {env:Env}:∀ (l:List (Str × NameKind)) (x:Str) (k:NameKind),
  (l.map fun (n,k)=>if (k == NameKind.free && env.scope.kind == .function && env.kindOf n == some .cell) then (n,NameKind.cell) else (n,k)).lookup x=some k->k=.cell \/ k=.free ->
  (∀ y ∈ l,y.2 ≠ .cell)->(x,NameKind.free) ∈ l
 | [],x,k,h,_,_=>by simp at h
 | (n,k') :: r,x,k,h,hk,hc=>by
  rw [List.map_cons,List.lookup_cons] at h
  have hn:(if (k' == NameKind.free && env.scope.kind == .function && env.kindOf n == some .cell)=true then (n,NameKind.cell) else (n,k')).1=n:=by split <;> rfl
  simp only [hn] at h
  cases hx:x == n with
  | true=>
   rw [hx] at h
   have ex:x=n:=by simpa using hx
   subst ex
   simp only [Option.some.injEq] at h
   split at h
   ·rename_i q
    simp only [Bool.and_eq_true,beq_iff_eq] at q
    rw [q.1.1];exact List.mem_cons_self
   ·have h':k'=k:=h
    rcases hk with z | z
    ·exact absurd (h'.trans z) (hc _ List.mem_cons_self)
    ·rw [h',z];exact List.mem_cons_self
  | false=>
   rw [hx] at h
   exact List.mem_cons_of_mem _ (relabel_kind (scope:=scope) r x k h hk fun y hy=>hc y (List.mem_cons_of_mem _ hy))
def cxC (X:Cx) (xs:List Str) (ix:List Nat) (scope:Scope) (C:Addr) (fp:List Addr) (s:Shared) (H:Hp):Cx:=
  { X with N:=xs ++ ix.map (fun i=>X.N.getD i ""),s₀:=s,H₀:=H,env:=compEnvC scope (clF X.env scope.names []) C X.env,
           outer:=X.stack,stack:=X.stack,ex:=fp,fn:=fun _=>false,pn:=[],xe:=fun _ _=>False }
def stC (xs:List Str) (ix:List Nat) (σ:St):St:=xs.map (fun _=>none) ++ ix.map (fun i=>(σ[i]?).join)
structure CompScope (X:Cx) (xs:List Str) (ix:List Nat) (scope:Scope):Prop where
 kind:scope.kind=.function
 nocell:∀ y ∈ scope.names,y.2 ≠ .cell
 loc:∀ y ∈ scope.names,y.2=.local->scope.names.lookup y.1=some .local
 fre:∀ n,(n,NameKind.free) ∈ scope.names->X.env.kindOf n=some .cell \/ X.env.kindOf n=some .free
 own:∀ x ∈ xs,scope.names.lookup x=some .local
 nd:(xs ++ ix.map (fun i=>X.N.getD i "")).Nodup
 inN:∀ i ∈ ix,i < X.N.length
 frx:∀ i ∈ ix,scope.names.lookup (X.N.getD i "")=some .free
theorem relabel_free {scope:Scope} {env:Env}:∀ (l:List (Str × NameKind)) (x:Str),l.lookup x=some .free ->
  (l.map fun (n,k)=>if (k == NameKind.free && env.scope.kind == .function && env.kindOf n == some .cell) then (n,NameKind.cell) else (n,k)).lookup x=some .cell \/
  (l.map fun (n,k)=>if (k == NameKind.free && env.scope.kind == .function && env.kindOf n == some .cell) then (n,NameKind.cell) else (n,k)).lookup x=some .free
 | [],x,h=>by simp at h
 | (n,k') :: r,x,h=>by
  rw [List.lookup_cons] at h
  rw [List.map_cons,List.lookup_cons]
  have hn:(if (k' == NameKind.free && env.scope.kind == .function && env.kindOf n == some .cell)=true then (n,NameKind.cell) else (n,k')).1=n:=by split <;> rfl
  simp only [hn]
  cases hx:x == n with
  | true=>
   rw [hx] at h
   have h':k'=.free:=Option.some.inj h
   subst h'
   by_cases hc:(NameKind.free == NameKind.free && env.scope.kind == .function && env.kindOf n == some .cell)=true
   ·left;simp only [if_pos hc]
   ·right;simp only [if_neg hc]
  | false=>
   rw [hx] at h
   exact relabel_free (scope:=scope) r x h
theorem block_start {X:Cx} {xs:List Str} {ix:List Nat} {scope:Scope} {pins:List (Addr × Obj)} {σ:St} {H:Hp} {s s1:Shared} {fp:List Addr} {h1:Heap} {tk:Nat}
  (S:CompScope X xs ix scope) (I:Inv X pins σ H s) (hf:∀ b ∈ fp,FpOk X pins H b) (hfo:∀ b ∈ fp,∃ o,s.heap.get? b=some o)
  (hns:h1.Ns s.heap.objs.size (fun _=>none)) (hk:∀ b o,s.heap.get? b=some o->h1.get? b=some o) (e1:s1 = { s with heap:=h1,toks:=tk }) :
  Inv (cxC X xs ix scope s.heap.objs.size fp s H) [] (stC xs ix σ) H s1:=by
 subst e1
 have hcl:∀ n,(n,NameKind.free) ∈ scope.names->(X.env.cells.lookup n).isSome=true:=fun n hn=>by
  obtain ⟨c,e⟩:=I.ok.has n (S.fre n hn)
  rw [e];rfl
 have sub:=clF_sub X.env scope.names [] hcl (fun y c q=>by simp at q)
 have has:=fun y hy=>clF_has X.env scope.names [] y (.inl hy)
 have fpl:∀ b ∈ fp,b ∉ frs X.stack:=fun b hb z=>by
  obtain ⟨_,f1,f2,_⟩:=hf b hb
  rcases List.mem_cons.mp (I.stkSub b z) with q | q
  ·exact f1 q
  ·exact f2 q
 have kindR:∀ x k,(cxC X xs ix scope s.heap.objs.size fp s H).env.kindOf x=some k->k=.cell \/ k=.free->(x,NameKind.free) ∈ scope.names:=fun x k e hk'=>
  relabel_kind (scope:=scope) (env:=X.env) scope.names x k e hk' S.nocell
 refine ⟨⟨I.ok.mod,S.kind,I.ok.glob,I.ok.blt,Nat.le_refl _,fun x y c a b=>?_,fun x hx=>?_,fun x c z=>(by cases z),I.ok.hd,I.ok.frames,.inl rfl,fun b hb=>?_,I.bs,Nat.le_trans I.ok.bsz I.sz,fun b o e hb=>?_,fpl,I.stack,I.stkFree⟩,
  rfl,I.bare,Un.kept hk,⟨_,hns,fun i x v e1 e2 e3=>?_⟩,fun x c e=>?_,I.hok.fresh (Nat.le_refl _),fun x c e=>I.freeC x c (sub x c e),fun p hp=>absurd (show p ∈ ([]:List (Addr × Obj)) from hp) (by simp),I.hok.kept hk,?_⟩
 ·exact I.ok.inj x y c (sub x c a) (sub y c b)
 ·have hm:(x,NameKind.free) ∈ scope.names:=hx.elim (fun z=>kindR x _ z (.inl rfl)) fun z=>kindR x _ z (.inr rfl)
  exact Option.isSome_iff_exists.mp (has x hm)
 ·obtain ⟨f0,f1,f2,f3,f4,f5⟩:=hf b hb
  obtain ⟨o,ho⟩:=hfo b hb
  exact ⟨fun z=>Nat.lt_irrefl _ (Nat.lt_of_lt_of_eq (Heap.lt_size ho) z.symm),fun x c e=>f4 x c (sub x c e)⟩
 ·obtain ⟨f0,f1,f2,f3,f4,f5⟩:=hf b hb
  rcases f3 with q | q
  ·exact I.ok.noex b o e q
  ·exact Nat.lt_irrefl _ (Nat.lt_of_lt_of_le (Heap.lt_size e) (Nat.le_trans I.ok.bsz q))
 ·have e2':(xs.map (fun _=>(none:Option V)) ++ ix.map (fun i=>(σ[i]?).join))[i]?=some (some v):=e2
  have e1':(xs ++ ix.map (fun i=>X.N.getD i ""))[i]?=some x:=e1
  by_cases hi:i < xs.length
  ·rw [List.getElem?_append_left (by simpa using hi),List.getElem?_map] at e2'
   cases q:xs[i]? with
   | none=>rw [q] at e2';cases e2'
   | some z=>rw [q] at e2';cases e2'
  ·have hi':xs.length <= i:=Nat.not_lt.mp hi
   rw [List.getElem?_append_right (by simpa using hi'),List.length_map,List.getElem?_map] at e2'
   rw [List.getElem?_append_right hi',List.getElem?_map] at e1'
   cases q:ix[i - xs.length]? with
   | none=>rw [q] at e2';cases e2'
   | some j=>
    rw [q] at e1' e2'
    have hj:j ∈ ix:=List.mem_of_getElem? q
    have ex:X.N.getD j ""=x:=Option.some.inj e1'
    have ev:(σ[j]?).join=some v:=Option.some.inj e2'
    have hjl:=S.inN j hj
    have eN:X.N[j]?=some x:=by
     rw [<- ex,List.getD_eq_getElem?_getD]
     rw [List.getElem?_eq_getElem hjl];rfl
    have eσ:σ[j]?=some (some v):=by
     cases z:σ[j]? with
     | none=>rw [z] at ev;cases ev
     | some y=>rw [z] at ev;simp at ev;rw [ev]
    have hfr:=S.frx j hj
    rw [ex] at hfr
    have hkin:=S.fre x (PySem.mem_of_lookup hfr)
    obtain ⟨m,hn,hl⟩:=I.loc
    obtain ⟨u,ru,lk⟩:=hl j x v eN eσ (hkin.elim (fun z=>.inr (.inl z)) fun z=>.inr (.inr z))
    refine ⟨u,ru,.inr ⟨relabel_free (scope:=scope) (env:=X.env) scope.names x hfr,?_⟩⟩
    rcases lk with ⟨k1,_⟩ | ⟨_,c,ec,zc⟩
    ·rcases hkin with z | z <;> (rw [z] at k1;cases k1)
    ·obtain ⟨c',ec'⟩:=Option.isSome_iff_exists.mp (has x (PySem.mem_of_lookup hfr))
     have q2:=sub x c' ec'
     rw [ec] at q2;cases q2
     obtain ⟨oc,hoc,hd⟩:=zc
     exact ⟨c,ec',oc,hk c oc hoc,hd⟩
 ·obtain ⟨v,oc,hoc,hd⟩:=I.cell x c (sub x c e)
  exact ⟨v,oc,hk c oc hoc,hd⟩
 ·show (xs.map (fun _=>(none:Option V)) ++ ix.map (fun i=>(σ[i]?).join)).length=(xs ++ ix.map (fun i=>X.N.getD i "")).length
  simp
theorem lc_loop {prog:Program} {w:World} {A:Around} {R:Result->Shared->Prop} {s:Shared} {elt target iter:Expr} {ifs:List Expr} {scope:Scope} {pos:Pos} {it acc:Value} {env:Env} (J:Nat->Shared->Prop)
  (turn:∀ n s,J n s->wpAny (model prog w) A (pyNext it) (fun r s1=>match r with
   | none=>R (.ok .next) s1
   | some v=>wpAny (model prog w) A (letOwnedTupleGo target it v) (fun _ s1'=>wpAny (model prog w) A (assign target env v) (fun _ s2=>
     wpAny (model prog w) A (forIn ifs true fun c r=>if r=true then do let ok <- isTrue c env (eval c env);pure (ForInStep.yield ok) else pure (ForInStep.yield r)) (fun ok s3=>
      if ok=true then wpAny (model prog w) A (eval elt env) (fun x s4=>
       wpAny (model prog w) A (call (.builtin "list.append") [acc,x]) (fun _ s5=>∃ m,m < n/\J m s5) (fun _ _=>False) s4) (fun _ _=>False) s3
      else ∃ m,m < n/\J m s3) (fun _ _=>False) s2) (fun _ _=>False) s1') (fun _ _=>False) s1) (fun _ _=>False) s)
  (n:Nat) (h:J n s):codeAny (model prog w) A (.compLoop (.ListComp elt [⟨target,iter,ifs,0⟩] scope pos) 0 it acc env) R s:=by
 refine codeAny_loop rfl J (fun n s hJ=>?_) n h
 have nof:∀ (e:Value) (s':Shared),False->notedBy (model prog w) A env (fun e s'=>R (.error e) s') e s':=fun _ _ f=>f.elim
 show wpAny (model prog w) A ((compTurn (.ListComp elt [⟨target,iter,ifs,0⟩] scope pos) 0 it acc env).onRaise (fun x=>do noteFrame x env;theTreesLotGoes x)) _ _ s
 refine wpAny_noted ?_
 rw [compTurn_list]
 refine wpAny_bind (wpAny_standAt (wpAny_bind (wpAny_mono (turn n s hJ) (fun r s1 h1=>?_) nof)))
 cases r with
 | none=>exact wpAny_pure h1
 | some v=>
  refine wpAny_bind (wpAny_mono h1 (fun _ s1' h1'=>?_) nof)
  refine wpAny_bind (wpAny_mono h1' (fun _ s2 h2=>?_) nof)
  refine wpAny_bind (wpAny_mono h2 (fun ok s3 h3=>?_) nof)
  cases ok with
  | false=>exact wpAny_pure ⟨rfl,h3⟩
  | true=>
   refine wpAny_bind (wpAny_bind (wpAny_mono h3 (fun x s4 h4=>?_) nof))
   exact wpAny_bind (wpAny_mono h4 (fun _ s5 h5=>wpAny_pure (wpAny_pure ⟨rfl,h5⟩)) nof)
def PTs (X:Cx) (ifs:List Expr) (t:TT):Prop:=
 ∀ (pins:List (Addr × Obj)) (s:Shared) (σ:St) (H:Hp) (Q:Bool->Hp->Prop),Inv X pins σ H s->t σ H Q ->
  wpAny (model X.prog X.w) X.A (forIn ifs true fun c r=>if r=true then do let ok <- isTrue c X.env (eval c X.env);pure (ForInStep.yield ok) else pure (ForInStep.yield r)) (TP X pins σ Q) X.xe s
def tYes:TT:=fun _ H Q=>Q true H
theorem pts_nil {X:Cx}:PTs X [] tYes:=fun _ _ _ H _ I h=>wpAny_tests_nil ⟨H,I,h⟩
theorem pts_one {X:Cx} {c:Expr} {t:TT} (h:PT X c t):PTs X [c] t:=fun pins s σ H Q I hw=>wpAny_tests_one (h pins s σ H Q I hw)
def LCW (J:It) (xs:List Str) (ix:List Nat) (g:TG) (tt:TT) (te:TE) (σ:St) (H1:Hp) (acc:Addr) (Q:VK):Prop:=
 ∃ W:Nat->Nat->List V->St->Hp->Prop,(∃ m,W 0 m [] (stC xs ix σ) (upd H1 acc (.lst []))) /\
  ∀ i m ys τ H,W i m ys τ H->H acc=some (.lst ys)/\ys.length < sizeLine /\
   ((J.stop i H/\Q (.ref acc) H) \/ (J.go i H/\∃ N:List V->St->Hp->Prop,(∀ ys' τ' H',N ys' τ' H'->∃ m',m' < m/\W (i + 1) m' ys' τ' H') /\
    ∀ x H',J.yld i H x H'->g x τ H' fun τ2 H2=>tt τ2 H2 fun b H3=>
    if b=true then te τ2 H3 fun y H4=>H4 acc=some (.lst ys)/\N (ys ++ [y]) τ2 (upd H4 acc (.lst (ys ++ [y]))) else N ys τ2 H3))
def tLC (xs:List Str) (ix:List Nat) (wi:TI) (g:TG) (tt:TT) (te:TE):TE:=fun σ H Q=>wi σ H fun J H1=>∀ acc,H1 acc=none->LCW J xs ix g tt te σ H1 acc Q
structure TurnG (Reg:Cx->Prop) (P:Program) (w:World) (tg:Expr) (J:It) (fp:List Addr) (it:Addr) (tn:Nat->Heap->Prop):Prop where
 mem:it ∈ fp
 obj:∀ i h,tn i h->∀ b ∈ fp,∃ o,h.get? b=some o/\∀ v,o.data ≠ .cell v
 keep:∀ i h h',tn i h->(∀ b ∈ fp,∀ o,h.get? b=some o->h'.get? b=some o)->tn i h'
 item:∀ (X:Cx),X.prog=P->X.w=w->Reg X->∀ (i:Nat) (pins:List (Addr × Obj)) (s:Shared) (σ:St) (H:Hp) (E:Value->Shared->Prop),Inv X pins σ H s->(∀ b ∈ fp,FpOk X pins H b)->tn i s.heap->J.go i H ->
  wpAny (model P w) X.A (pyNext (.ref it)) (fun r s1=>∃ u,r=some u /\
   wpAny (model P w) X.A (letOwnedTupleGo tg (.ref it) u) (fun _ s2=>∃ x H',Inv X pins σ H' s2/\RelV x u/\J.yld i H x H'/\tn (i + 1) s2.heap/\∀ b ∈ fp,H' b=none) E s1) E s
 done:∀ (X:Cx),X.prog=P->X.w=w->Reg X->∀ (i:Nat) (pins:List (Addr × Obj)) (s:Shared) (σ:St) (H:Hp) (E:Value->Shared->Prop),Inv X pins σ H s->(∀ b ∈ fp,FpOk X pins H b)->tn i s.heap->J.stop i H ->
  wpAny (model P w) X.A (pyNext (.ref it)) (fun r s1=>r=none/\Inv X pins σ H s1) E s
 self:∀ (A:Around) (i:Nat) (s:Shared) (Q:Value->Shared->Prop) (E:Value->Shared->Prop),tn i s.heap->Q (.ref it) s->wpAny (model P w) A (pyIter (.ref it)) Q E s
def PIEG (Reg:Cx->Prop) (X:Cx) (pins:List (Addr × Obj)) (σ:St) (tg:Expr) (R:It->Hp->Prop) (itv:Value) (s2:Shared):Prop:=
 ∃ (it:Addr) (fp:List Addr) (tn:Nat->Heap->Prop) (J:It) (H':Hp),itv=.ref it/\Inv X pins σ H' s2/\TurnG Reg X.prog X.w tg J fp it tn/\tn 0 s2.heap/\(∀ b ∈ fp,FpOk X pins H' b)/\R J H'
def PIG (Reg:Cx->Prop) (X:Cx) (tg iter:Expr) (wi:TI):Prop:=
 ∀ (pins:List (Addr × Obj)) (s:Shared) (σ:St) (H:Hp) (R:It->Hp->Prop),Inv X pins σ H s->wi σ H R ->
  wpAny (model X.prog X.w) X.A (eval iter X.env) (fun v s1=>wpAny (model X.prog X.w) X.A (pyIter v) (PIEG Reg X pins σ tg R) X.xe s1) X.xe s
theorem lc_coreG {Reg:Cx->Prop} {X:Cx} {xs:List Str} {ix:List Nat} {scope:Scope} {elt tg iter:Expr} {ifs:List Expr} {pos:Pos} {wi:TI} {g:TG} {tt:TT} {te:TE}
  (S:CompScope X xs ix scope) (hreg:∀ Y:Cx,Y.K=X.K->Y.calm=X.calm->Y.A.handled=X.A.handled->Reg Y) (hi:PIG Reg X tg iter wi)
  (hg:∀ C fp s H,PG (cxC X xs ix scope C fp s H) tg g) (ht:∀ C fp s H,PTs (cxC X xs ix scope C fp s H) ifs tt) (he:∀ C fp s H,PE (cxC X xs ix scope C fp s H) elt te)
  {pins:List (Addr × Obj)} {s:Shared} {σ:St} {H:Hp} {Q:VK} (I:Inv X pins σ H s) (h:tLC xs ix wi g tt te σ H Q) {use:Option (Value->Sem Unit)} {R:Value->Shared->Prop}
  (fin:∀ (acc C:Addr) (H':Hp) (s':Shared) (m:Str->Option Value),Q (.ref acc) H'->s'.heap.Ns C m->(∀ h',Heap.SameBut C s'.heap h'->∀ tk,Inv X pins σ H' { s' with heap:=h',toks:=tk })->(X.s₀.heap.objs.size <= C/\C ≠ X.env.locals/\(∀ x c,X.env.cells.lookup x=some c->c ≠ C)/\(∀ p ∈ X.pn ++ pins,p.1 ≠ C)/\H' C=none)->compPost (model X.prog X.w) X.A X.xe use R (.ref acc) C (.ok .next) s') :
  wpAny (model X.prog X.w) X.A (eval iter X.env) (fun x s₁=>wpAny (model X.prog X.w) X.A (pyIter x) (fun it s₂=>wpAny (model X.prog X.w) X.A (newList []) (fun acc s₃=>
   wpAny (model X.prog X.w) X.A (newFunctionEnv scope X.env.globals (clF X.env scope.names []) [] X.env.qual none .none (some X.env)) (fun cenv s₄=>
    codeAny (model X.prog X.w) X.A (.compStart (.ListComp elt [⟨tg,iter,ifs,0⟩] scope pos) 0 it acc { cenv with scope:=relabel scope X.env }) (compPost (model X.prog X.w) X.A X.xe use R acc cenv.locals) s₄) X.xe s₃) X.xe s₂) X.xe s₁) X.xe s:=by
 refine thn (hi pins s σ H _ I h) fun v s1 h1=>thn h1 fun itv s2 h2=>?_
 obtain ⟨it,fp,tn,J,H2,rfl,I2,T,st2,f2,q⟩:=h2
 refine wpAny_newObj_type ?_
 have I3:Inv X pins σ (upd H2 s2.heap.objs.size (.lst [])) { s2 with heap:=s2.heap.push { cls:=.type "list",data:=.seq ([]:List Value).toArray },toks:=s2.toks }:=I2.lnew (ys:=[]) (its:=[]) .nil (Nat.zero_le _)
 obtain ⟨W,⟨m0,w0⟩,turn⟩:=q s2.heap.objs.size I2.fresh
 have objs2:=T.obj 0 _ st2
 have neacc:∀ b ∈ fp,b ≠ s2.heap.objs.size:=fun b hb z=>by
  obtain ⟨o,ho,_⟩:=objs2 b hb
  exact Nat.lt_irrefl _ (Nat.lt_of_lt_of_eq (Heap.lt_size ho) z.symm)
 generalize hacc:s2.heap.objs.size=acc at *
 generalize hs3:({ s2 with heap:=s2.heap.push { cls:=.type "list",data:=.seq ([]:List Value).toArray } }:Shared)=s3
 have I3:Inv X pins σ (upd H2 acc (.lst [])) s3:=by rw [<- hs3];exact I3
 have k3:∀ b o,s2.heap.get? b=some o->s3.heap.get? b=some o:=fun b o e=>by rw [<- hs3];exact Heap.get?_push_of_some _ e
 have f3:∀ b ∈ fp,FpOk X pins (upd H2 acc (.lst [])) b:=fun b hb=>⟨by rw [upd_ne (neacc b hb)];exact (f2 b hb).1,(f2 b hb).2⟩
 have o3:∀ b ∈ fp,∃ o,s3.heap.get? b=some o:=fun b hb=>let ⟨o,ho,_⟩:=objs2 b hb;⟨o,k3 b o ho⟩
 have st3:tn 0 s3.heap:=T.keep _ _ _ st2 fun b _ o e=>k3 b o e
 refine wpAny_newFunctionEnv S.nocell (by intro y hy;simp at hy) (fun h1 hns1 hsb1=>?_) S.kind
 have keep1:∀ b o,s3.heap.get? b=some o->h1.get? b=some o:=fun b o e=>hsb1.extBut b o (Nat.ne_of_lt (Heap.lt_size e)) (Heap.get?_push_of_some _ e)
 generalize hs4:({ s3 with heap:=h1,toks:=s3.toks + ([]:List (Str × Value)).length }:Shared)=s4
 have I4:Inv (cxC X xs ix scope s3.heap.objs.size fp s3 (upd H2 acc (.lst []))) [] (stC xs ix σ) (upd H2 acc (.lst [])) s4:=block_start S I3 f3 o3 hns1 keep1 hs4.symm
 have st4:tn 0 s4.heap:=T.keep _ _ _ st3 fun b _ o e=>by rw [<- hs4];exact keep1 b o e
 generalize hX':cxC X xs ix scope s3.heap.objs.size fp s3 (upd H2 acc (.lst []))=X' at *
 have hg:=hg s3.heap.objs.size fp s3 (upd H2 acc (.lst []))
 have ht:=ht s3.heap.objs.size fp s3 (upd H2 acc (.lst []))
 have he:=he s3.heap.objs.size fp s3 (upd H2 acc (.lst []))
 rw [hX'] at hg ht he
 have eP:X'.prog=X.prog:=by rw [<- hX'];rfl
 have ew:X'.w=X.w:=by rw [<- hX'];rfl
 have eK:X'.K=X.K:=by rw [<- hX'];rfl
 have eA:X'.A=X.A:=by rw [<- hX'];rfl
 have ec:Reg X':=hreg X' eK (by rw [<- hX'];rfl) (by rw [<- hX'];rfl)
 have ex:X'.xe=fun _ _=>False:=by rw [<- hX'];rfl
 have eenv:X'.env=compEnvC scope (clF X.env scope.names []) s3.heap.objs.size X.env:=by rw [<- hX'];rfl
 have eex:X'.ex=fp:=by rw [<- hX'];rfl
 have efs:X'.fs=frs X.stack:=by rw [<- hX'];rfl
 have epn:X'.pn=[]:=by rw [<- hX'];rfl
 have eH0:X'.H₀=upd H2 acc (.lst []):=by rw [<- hX'];rfl
 have es0:X'.s₀=s3:=by rw [<- hX'];rfl
 have eloc:X'.env.locals=s3.heap.objs.size:=by rw [eenv];rfl
 have stat:∀ {H':Hp},(∀ b ∈ fp,H' b=none)->∀ b ∈ fp,FpOk X' [] H' b:=fun {H'} hn b hb=>by
  refine ⟨hn b hb,?_,?_,.inl (by rw [eex];exact hb),?_,?_⟩
  ·rw [eloc]
   intro z
   obtain ⟨o,ho⟩:=o3 b hb
   exact Nat.lt_irrefl _ (Nat.lt_of_lt_of_eq (Heap.lt_size ho) z.symm)
  ·exact I4.ok.exfs b (by rw [eex];exact hb)
  ·exact (I4.ok.exf b (by rw [eex];exact hb)).2
  ·rw [epn];intro p hp;exact absurd hp (by simp)
 have loop:codeAny (model X.prog X.w) X.A (.compLoop (.ListComp elt [⟨tg,iter,ifs,0⟩] scope pos) 0 (.ref it) (.ref acc) X'.env) (compPost (model X.prog X.w) X.A X.xe use R (.ref acc) s3.heap.objs.size) s4:=by
  refine lc_loop (fun n s'=>∃ i ys τ H',Inv X' [] τ H' s'/\tn i s'.heap/\(∀ b ∈ fp,H' b=none)/\W i n ys τ H') ?_ m0 ⟨0,[],_,_,I4,st4,fun b hb=>(f3 b hb).1,w0⟩
  rintro n s5 ⟨i,ys,τ,H5,I5,st5,fr5,w5⟩
  obtain ⟨ha5,hz5,way⟩:=turn i n ys τ H5 w5
  rcases way with ⟨stop,qn⟩ | ⟨go,N,hN,step⟩
  ·have d:=T.done X' eP ew ec i [] s5 τ H5 (fun _ _=>False) I5 (stat fr5) st5 stop
   rw [eA] at d
   refine thn d fun r s6 hz42=>?_
   obtain ⟨hr,I6⟩:=hz42
   subst hr
   obtain ⟨m,hn6,_⟩:=id I6.loc
   rw [eloc] at hn6
   refine fin acc s3.heap.objs.size H5 s6 m qn hn6 (fun h' hsb tk=>?_) ⟨I3.sz,Ne.symm (Nat.ne_of_lt I3.lt),fun x c e z=>by
    obtain ⟨v,oc,hoc,_⟩:=I3.cell x c e
    exact Nat.lt_irrefl _ (Nat.lt_of_lt_of_eq (Heap.lt_size hoc) z.symm),fun p hp z=>Nat.lt_irrefl _ (Nat.lt_of_lt_of_eq (Heap.lt_size (I3.pin p hp).1) z.symm),by have:=I6.free;rw [eloc] at this;exact this⟩
   have same:∀ b,b ≠ s3.heap.objs.size->h'.get? b=s6.heap.get? b:=fun b hb=>hsb.2 b hb
   have ub:=I6.base
   rw [efs,eex,eH0,es0] at ub
   have ne3:∀ b o,s3.heap.get? b=some o->b ≠ s3.heap.objs.size:=fun b o e=>Nat.ne_of_lt (Heap.lt_size e)
   have u:Un (frs X.stack) fp (upd H2 acc (.lst [])) H5 s3.heap h':=
    ⟨fun b o e n1 n2 n3=>(same b (ne3 b o e)).trans (ub.keep b o e n1 n2 n3),fun b o e n1 n2 n3=>by
      obtain ⟨sl,z⟩:=ub.slot b o e n1 n2 n3
      exact ⟨sl,(same b (ne3 b o e)).trans z⟩,ub.free,fun b o e n3=>by
      obtain ⟨o',z⟩:=ub.there b o e n3
      exact ⟨o',(same b (ne3 b o e)).trans z⟩,ub.tups,ub.frzs,ub.tbls⟩
   have fC:H5 s3.heap.objs.size=none:=by have:=I6.free;rw [eloc] at this;exact this
   have hok:HOk X.prog X.w H5 h':=fun b o e=>by
    have z:=I6.hok b o e
    rw [eP,ew] at z
    refine z.stay (fun c u hc q=>(same c ?_).trans q) (fun _ q=>q) fun _ _ q=>q
    intro zc
    rcases hc with q1 | q1
    ·rw [<- q1,zc,fC] at e;cases e
    ·rw [zc,fC] at q1;cases q1
   have hch:∀ b ∈ fp,(b ∈ X.ex \/ X.s₀.heap.objs.size <= b)/\b ≠ X.env.locals/\(∀ x c,X.env.cells.lookup x=some c->c ≠ b)/\∀ p ∈ X.pn ++ pins,p.1 ≠ b:=fun b hb=>by
    obtain ⟨_,f1,_,g3,g4,g5⟩:=f3 b hb
    exact ⟨g3,f1,g4,g5⟩
   have ho:s6.os=s3.os:=by have:=I6.os;rw [es0] at this;exact this
   exact I3.call' (s':={ s6 with heap:=h',toks:=tk }) (ch:=fp) ho u hok I6.bare hch
  ·have d:=T.item X' eP ew ec i [] s5 τ H5 (fun _ _=>False) I5 (stat fr5) st5 go
   rw [eA] at d
   refine thn d fun r s6 hz43=>?_
   obtain ⟨u,hr,h6⟩:=hz43
   subst hr
   refine thn h6 fun _ s7 hz44=>?_
   obtain ⟨x,H7,I7,r7,y7,st7,fr7⟩:=hz44
   have I7':=I7.pinned (stat fr7) (T.obj _ _ st7)
   have dg:=hg _ s7 τ H7 x u _ I7' r7 (step x H7 y7)
   rw [eP,ew,eA,ex] at dg
   refine thn dg fun _ s8 hz45=>?_
   obtain ⟨τ8,H8,I8,q8⟩:=hz45
   have dt:=ht _ s8 τ8 H8 _ I8 q8
   rw [eP,ew,eA,ex] at dt
   refine thn dt fun ok s9 hz46=>?_
   obtain ⟨H9,I9,q9⟩:=hz46
   have again:∀ {τ':St} {H':Hp} {s':Shared},Inv X' ([] ++ pinsAt fp s7.heap) τ' H' s'->Inv X' [] τ' H' s'/\tn (i + 1) s'.heap/\∀ b ∈ fp,H' b=none:=fun {τ' H' s'} Ie=>by
    refine ⟨Ie.unpinned,T.keep _ _ _ st7 fun b hb o e=>(Ie.pin (b,o) (List.mem_append_right _ (List.mem_append_right _ (mem_pinsAt hb e)))).1,fun b hb=>?_⟩
    obtain ⟨o,e,_⟩:=T.obj _ _ st7 b hb
    exact (Ie.pin (b,o) (List.mem_append_right _ (List.mem_append_right _ (mem_pinsAt hb e)))).2.1
   cases ok with
   | false=>
    rw [if_neg Bool.false_ne_true] at q9 ⊢
    obtain ⟨m',hm,w9⟩:=hN _ _ _ q9
    obtain ⟨z1,z2,z3⟩:=again I9
    exact ⟨m',hm,i + 1,ys,τ8,H9,z1,z2,z3,w9⟩
   | true=>
    rw [if_pos rfl] at q9 ⊢
    have de:=he _ s9 τ8 H9 _ I9 q9
    rw [eP,ew,eA,ex] at de
    refine thn de fun yv s10 hz47=>?_
    obtain ⟨y,H10,I10,r10,ha10,n10⟩:=hz47
    obtain ⟨m',hm,w10⟩:=hN _ _ _ n10
    have dm:=mt_append (X:=X') _ s10 τ8 H10 (.ref acc) [y] (.ref acc) [yv] (fun v H'=>v=.non/\H'=upd H10 acc (.lst (ys ++ [y]))) I10 rfl (.cons r10 .nil) ⟨acc,ys,y,rfl,rfl,ha10,hz5,rfl,rfl⟩
    rw [eP,ew,eA,ex] at dm
    refine thn dm fun _ s11 hz48=>?_
    obtain ⟨_,H11,I11,_,_,e11⟩:=hz48
    subst e11
    obtain ⟨z1,z2,z3⟩:=again I11
    exact ⟨m',hm,i + 1,ys ++ [y],τ8,_,z1,z2,z3,w10⟩
 have e4:({ newEnv scope s3.heap.objs.size X.env.globals (clF X.env scope.names []) X.env.qual none .none (some X.env) builtinsNs with scope:=relabel scope X.env }:Env)=X'.env:=by rw [eenv];rfl
 rw [eenv] at loop
 have self:=T.self X.A 0 s4 (fun it' s'=>codeAny (model X.prog X.w) X.A (.compLoop (.ListComp elt [⟨tg,iter,ifs,0⟩] scope pos) 0 it' (.ref acc) (compEnvC scope (clF X.env scope.names []) s3.heap.objs.size X.env)) (compPost (model X.prog X.w) X.A X.xe use R (.ref acc) s3.heap.objs.size) s')
  (notedBy (model X.prog X.w) X.A (compEnvC scope (clF X.env scope.names []) s3.heap.objs.size X.env) fun x s'=>compPost (model X.prog X.w) X.A X.xe use R (.ref acc) s3.heap.objs.size (.error x) s') st4 loop
 exact codeAny_compStart_list loop self
theorem lc_core {X:Cx} {xs:List Str} {ix:List Nat} {scope:Scope} {elt tg iter:Expr} {ifs:List Expr} {pos:Pos} {wi:TI} {g:TG} {tt:TT} {te:TE}
  (S:CompScope X xs ix scope) (hc:X.calm=true) (hi:PI X tg iter wi)
  (hg:∀ C fp s H,PG (cxC X xs ix scope C fp s H) tg g) (ht:∀ C fp s H,PTs (cxC X xs ix scope C fp s H) ifs tt) (he:∀ C fp s H,PE (cxC X xs ix scope C fp s H) elt te)
  {pins:List (Addr × Obj)} {s:Shared} {σ:St} {H:Hp} {Q:VK} (I:Inv X pins σ H s) (h:tLC xs ix wi g tt te σ H Q) {use:Option (Value->Sem Unit)} {R:Value->Shared->Prop}
  (fin:∀ (acc C:Addr) (H':Hp) (s':Shared) (m:Str->Option Value),Q (.ref acc) H'->s'.heap.Ns C m->(∀ h',Heap.SameBut C s'.heap h'->∀ tk,Inv X pins σ H' { s' with heap:=h',toks:=tk })->(X.s₀.heap.objs.size <= C/\C ≠ X.env.locals/\(∀ x c,X.env.cells.lookup x=some c->c ≠ C)/\(∀ p ∈ X.pn ++ pins,p.1 ≠ C)/\H' C=none)->compPost (model X.prog X.w) X.A X.xe use R (.ref acc) C (.ok .next) s') :
  wpAny (model X.prog X.w) X.A (eval iter X.env) (fun x s₁=>wpAny (model X.prog X.w) X.A (pyIter x) (fun it s₂=>wpAny (model X.prog X.w) X.A (newList []) (fun acc s₃=>
   wpAny (model X.prog X.w) X.A (newFunctionEnv scope X.env.globals (clF X.env scope.names []) [] X.env.qual none .none (some X.env)) (fun cenv s₄=>
    codeAny (model X.prog X.w) X.A (.compStart (.ListComp elt [⟨tg,iter,ifs,0⟩] scope pos) 0 it acc { cenv with scope:=relabel scope X.env }) (compPost (model X.prog X.w) X.A X.xe use R acc cenv.locals) s₄) X.xe s₃) X.xe s₂) X.xe s₁) X.xe s:=
 lc_coreG (Reg:=fun Y=>Y.K=X.K/\Y.calm=true) S (fun Y k c _=>⟨k,c.trans hc⟩)
  (fun pins s σ H R I q=>thn (hi pins s σ H R I q) fun v s1 h1=>thn h1 fun itv s2 h2=>by
   obtain ⟨it,fp,tn,J,H',e,I',T,r⟩:=h2
   exact ⟨it,fp,tn,J,H',e,I',⟨T.mem,T.obj,T.keep,fun Y e1 e2 r=>T.item Y e1 e2 r.1 r.2,fun Y e1 e2 r=>T.done Y e1 e2 r.1 r.2,T.self⟩,r⟩) hg ht he I h fin
theorem pe_lc {X:Cx} {xs:List Str} {ix:List Nat} {scope:Scope} {elt tg iter:Expr} {ifs:List Expr} {pos:Pos} {wi:TI} {g:TG} {tt:TT} {te:TE}
  (S:CompScope X xs ix scope) (hc:X.calm=true) (hi:PI X tg iter wi)
  (hg:∀ C fp s H,PG (cxC X xs ix scope C fp s H) tg g) (ht:∀ C fp s H,PTs (cxC X xs ix scope C fp s H) ifs tt) (he:∀ C fp s H,PE (cxC X xs ix scope C fp s H) elt te)
  (hs:∀ x,foldedSetIterable iter X.env x=pure x:=by intro _;rfl) :
  PE X (.ListComp elt [⟨tg,iter,ifs,0⟩] scope pos) (tLC xs ix wi g tt te):=by
 intro pins s σ H Q I h
 have hcl:∀ n,(n,NameKind.free) ∈ scope.names->(X.env.cells.lookup n).isSome=true:=fun n hn=>by
  obtain ⟨c,e⟩:=I.ok.has n (S.fre n hn)
  rw [e];rfl
 rw [eval_ListComp]
 refine wpAny_comprehension_free (use:=none) rfl hs (closureFor_clF hcl) S.kind S.loc ?_
 refine lc_core S hc hi hg ht he I h fun acc C H' s' m q hn k _=>?_
 exact ⟨m,hn,fun h' hsb=>⟨.ref acc,H',k h' hsb s'.toks,rfl,q⟩⟩
theorem Inv.letgo {X:Cx} {pins:List (Addr × Obj)} {σ:St} {H:Hp} {s:Shared} {h':Heap} {C:Addr} (I:Inv X pins σ H s) (hs:Heap.SameBut C s.heap h')
  (hC:X.s₀.heap.objs.size <= C/\C ≠ X.env.locals/\(∀ x c,X.env.cells.lookup x=some c->c ≠ C)/\(∀ p ∈ X.pn ++ pins,p.1 ≠ C)/\H C=none):Inv X pins σ H { s with heap:=h' }:=by
 obtain ⟨c1,c2,c3,c4,c5⟩:=hC
 have same:∀ b,b ≠ C->h'.get? b=s.heap.get? b:=fun b hb=>hs.2 b hb
 have ne:∀ {b:Addr},b ∉ [C]->b ≠ C:=fun h e=>h (by simp [e])
 have u:Un (frs X.stack) [C] H H s.heap h':=
  ⟨fun b o e _ _ n=>(same b (ne n)).trans e,fun b o e _ _ n=>⟨o.slots,(same b (ne n)).trans e⟩,fun b o _ e _=>e,fun b o e n=>⟨o,(same b (ne n)).trans e⟩,fun _ _ e=>e,fun _ _ _ e=>e,fun b ps e=>⟨#[],by rw [Array.append_empty];exact e⟩⟩
 have hok:HOk X.prog X.w H h':=fun b o e=>by
  refine (I.hok b o e).stay (fun c u hc q=>(same c ?_).trans q) (fun _ q=>q) fun _ _ q=>q
  intro zc
  rcases hc with q1 | q1
  ·rw [<- q1,zc,c5] at e;cases e
  ·rw [zc,c5] at q1;cases q1
 refine I.call' (s':={ s with heap:=h' }) (ch:=[C]) rfl u hok I.bare fun b hb=>?_
 have eb:b=C:=by simpa using hb
 subst eb
 exact ⟨.inr c1,c2,c3,c4⟩
theorem ps_setLC {X:Cx} {xs:List Str} {ix:List Nat} {scope:Scope} {elt tg iter:Expr} {ifs:List Expr} {cpos pos pos':Pos} {wi:TI} {g:TG} {tt:TT} {te:TE} {i:Nat} {x:Str}
  (hN:X.N.Nodup) (hin:X.N[i]?=some x) (hx:Loc X.env.scope x)
  (S:CompScope X xs ix scope) (hc:X.calm=true) (hi:PI X tg iter wi)
  (hg:∀ C fp s H,PG (cxC X xs ix scope C fp s H) tg g) (ht:∀ C fp s H,PTs (cxC X xs ix scope C fp s H) ifs tt) (he:∀ C fp s H,PE (cxC X xs ix scope C fp s H) elt te)
  (hsw:swapsWith (.ListComp elt [⟨tg,iter,ifs,0⟩] scope cpos) (some (.Name x pos')) pos.line X.env=pure true)
  (hf:X.fn x=true \/ X.env.scope.names.lookup x=some .local:=by first | exact .inl rfl | exact .inr rfl | assumption)
  (hs:∀ x,foldedSetIterable iter X.env x=pure x:=by intro _;rfl) :
  PS X (.Assign [.Name x pos'] (.ListComp elt [⟨tg,iter,ifs,0⟩] scope cpos) pos) (tAsg (tLC xs ix wi g tt te) (gName i)):=by
 intro pins s σ H D I h
 have hcl:∀ n,(n,NameKind.free) ∈ scope.names->(X.env.cells.lookup n).isSome=true:=fun n hn=>by
  obtain ⟨c,e⟩:=I.ok.has n (S.fre n hn)
  rw [e];rfl
 rw [exec_Assign_Name_used _ _ _ _ hsw]
 refine wpAny_bind (wpAny_standAt (wpAny_bind ?_))
 rw [arm_evalThenUse_ListComp]
 refine wpAny_bind (thn (Q:=fun _ s'=>SP X pins D .next s') (wpAny_comprehension_free (g:=⟨tg,iter,ifs,0⟩) (gs:=[]) (use:=some (assign (.Name x pos') X.env)) rfl hs (closureFor_clF hcl) S.kind S.loc ?_) fun _ s1 h1=>wpAny_pure (wpAny_pure h1))
 refine lc_core S hc hi hg ht he I h fun acc C H' s' m q hn k hC=>?_
 have I':Inv X pins σ H' s':=k s'.heap (Heap.SameBut.refl _ _) s'.toks
 show wpAny (model X.prog X.w) X.A (assign (.Name x pos') X.env (.ref acc)) (fun _ s''=>∃ m,s''.heap.Ns C m/\∀ h',Heap.SameBut C s''.heap h'->SP X pins D .next { s'' with heap:=h' }) X.xe s'
 refine wpAny_assign_Name (store_ok2 I' hN hin hx (v:=.ref acc) rfl (fun s'' I'' hz49=>?_) hf)
 obtain ⟨a,hsa,ha⟩:=hz49
 refine ⟨m,hn.sameBut hsa ?_,fun h' hsb=>⟨_,H',I''.letgo hsb hC,q⟩⟩
 rcases ha with rfl | ha
 ·exact hC.2.1
 ·exact fun z=>hC.2.2.1 x a ha z.symm
end L2
namespace L2
open PySem PySem.Spec PyProof.Rows
def Its (x:Str):It:=⟨fun i _=>i < x.cps.size,fun i H v H'=>H'=H/\∃ c,x.cps[i]?=some c/\v=.str ⟨#[c]⟩,fun i _=>i=x.cps.size⟩
theorem turn_str {P:Program} {w:World} {K:PySem.W.Frag} {tg:Expr} (it:Addr) (x:Str) (t:Tok) (ty:String)
  (hty:["enumerate","zip","dict_itemiterator","dict_reverseitemiterator","odict_iterator","itertools.zip_longest","itertools.pairwise"].contains ty=false)
  (W:∀ A:Around,A.handled=none->Walks P w A it [it] [it] x.cps.size (SignAt x) (fun i h=>h.IsStrIter it ty x t i))
  (self:∀ (A:Around) (i:Nat) (s:Shared) (Q:Value->Shared->Prop) (E:Value->Shared->Prop),s.heap.IsStrIter it ty x t i->Q (.ref it) s->wpAny (model P w) A (pyIter (.ref it)) Q E s) :
  Turn P w K tg (Its x) [it] it (fun i h=>h.IsStrIter it ty x t i) where
 mem:=by simp
 obj:=fun i h st b hb=>by
  have e:b=it:=by simpa using hb
  subst e
  obtain ⟨o,e,c,d⟩:=st
  exact ⟨o,e,fun v z=>by rw [d] at z;cases z⟩
 keep:=fun i h h' st k=>let ⟨o,e,r⟩:=st;⟨o,k it (by simp) o e,r⟩
 item:=by
  intro X hP hw hK hc i pins s σ H E I hf st hg
  subst hP hw hK
  obtain ⟨f0,f1,f2,f3,f4,f5⟩:=hf it (by simp)
  refine (W X.A (I.ok.hd hc)).item i s _ _ hg st fun v h' tk hv st' kk=>?_
  obtain ⟨c,u,hcx,rfl⟩:=hv
  have I1:Inv X pins σ H { s with heap:=h',toks:=tk }:=I.turned (fun b o hb e=>kk b o (by simpa using hb) e) f0 f1 f3 f4 f5
  obtain ⟨o,e,c',d⟩:=id st'
  exact ⟨_,rfl,go_of (s:={ s with heap:=h',toks:=tk }) e c' d hty ⟨.str ⟨#[c]⟩,H,I1,⟨u,rfl⟩,⟨rfl,c,hcx,rfl⟩,st',fun b hb=>(hf b hb).1⟩⟩
 done:=by
  intro X hP hw hK hc i pins s σ H E I hf st hg
  subst hP hw hK
  obtain ⟨f0,f1,f2,f3,f4,f5⟩:=hf it (by simp)
  have hg':i=x.cps.size:=hg
  subst hg'
  exact (W X.A (I.ok.hd hc)).done s _ _ st fun h' tk kk=>⟨rfl,I.turned (fun b o hb e=>kk b o (by simpa using hb) e) f0 f1 f3 f4 f5⟩
 self:=self
section
variable {X:Cx} {tg:Expr}
def iStr (tl:TE):TI:=fun σ H R=>tl σ H fun x H1=>∃ z,x=.str z/\R (Its z) H1
theorem pi_str {l:Expr} {tl:TE} (hl:PE X l tl):PI X tg l (iStr tl):=by
 intro pins s σ H R I h
 refine thn (hl pins s σ H _ I h) fun v s1 hz50=>?_
 obtain ⟨x,H1,I1,r1,q1⟩:=hz50
 obtain ⟨z,e,q⟩:=q1
 subst e
 obtain ⟨t,rfl⟩:=(show ∃ t,v=Value.str z t from r1)
 have fin:∀ (o:Obj) (ty:String),o.cls=.type ty->o.data=.fields #[.str z t,.int 0 0] ->
   ["enumerate","zip","dict_itemiterator","dict_reverseitemiterator","odict_iterator","itertools.zip_longest","itertools.pairwise"].contains ty=false ->
   o.isFreed=false ->
   (∀ A:Around,A.handled=none->Walks X.prog X.w A s1.heap.objs.size [s1.heap.objs.size] [s1.heap.objs.size] z.cps.size (SignAt z) (fun i h=>h.IsStrIter s1.heap.objs.size ty z t i)) ->
   (∀ (A:Around) (i:Nat) (s:Shared) (Q:Value->Shared->Prop) (E:Value->Shared->Prop),s.heap.IsStrIter s1.heap.objs.size ty z t i->Q (.ref s1.heap.objs.size) s->wpAny (model X.prog X.w) A (pyIter (.ref s1.heap.objs.size)) Q E s) ->
   PIE X pins σ tg R (.ref s1.heap.objs.size) { s1 with heap:=s1.heap.push o }:=fun o ty h1 h2 h3 hfr W self=>by
  refine ⟨s1.heap.objs.size,[s1.heap.objs.size],_,_,H1,rfl,I1.kept (t':=s1.toks) fun b o e=>Heap.get?_push_of_some _ e,turn_str _ z t ty h3 W self,⟨o,Heap.get?_push_size _ hfr,h1,h2⟩,fun b hb=>?_,q⟩
  have e:b=s1.heap.objs.size:=by simpa using hb
  subst e
  exact I1.fpOk (Nat.le_refl _) (I1.hok.fresh (Nat.le_refl _))
 cases ha:z.cps.all (· < 128)
 ·exact wpAny_pyIter_wide ha (fin _ "str_iterator" rfl rfl (by decide) rfl (fun A hA=>Walks.strWide hA _ z t) fun _ _ _ _ _ st hQ=>wpAny_pyIter_striter_wide st hQ)
 ·exact wpAny_pyIter_ascii ha (fin _ "str_ascii_iterator" rfl rfl (by decide) rfl (fun A hA=>Walks.strAscii hA _ z t) fun _ _ _ _ _ st hQ=>wpAny_pyIter_striter_ascii st hQ)
theorem in1_handled {A:Around} (h:A.handled=none):A.in1.handled=none:=h
theorem bools_get {ys:List Bool} {its:List Value} (r:Vals (ys.map V.bl) its) {i:Nat} {v:Value} (h:its[i]?=some v):∃ b,ys[i]?=some b/\v=.bool b:=by
 have hl:=r.length
 rw [List.length_map] at hl
 have hi:i < its.length:=(List.getElem?_eq_some_iff.mp h).1
 obtain ⟨u,e1,e2⟩:=r.get (i:=i) (x:=V.bl (ys[i]'(by omega))) (by rw [List.getElem?_map,List.getElem?_eq_getElem (by omega)];rfl)
 rw [h] at e1
 cases e1
 exact ⟨_,List.getElem?_eq_getElem (by omega),e2⟩
theorem range_all (ys:List Bool):(List.range ys.length).all (fun i=>ys.getD i false)=ys.all id:=by
 have e:ys=(List.range ys.length).map (fun i=>ys.getD i false):=by
  apply List.ext_getElem (by simp)
  intro i h1 h2
  simp [List.getD_eq_getElem?_getD,List.getElem?_eq_getElem h1]
 conv=>rhs;rw [e]
 rw [List.all_map];rfl
theorem call_all (hc:X.calm=true):CallR X (.builtin "all") (fun xs H Q=>∃ (p:Addr) (ys:List Bool),xs=[.ref p]/\SqL X.K H p (ys.map V.bl)/\Q (.bl (ys.all id)) H):=by
 intro pins s σ H xs us Q I r h
 obtain ⟨p,ys,rfl,hq,q⟩:=h
 obtain ⟨u,rfl,ru⟩:=r.one
 cases ru
 obtain ⟨its,rv,pl,hz⟩:=I.list hq
 have hl:=rv.length
 rw [List.length_map] at hl
 refine call_all_walk (wpAny_pyIter_list pl.isList ?_)
 have hp:p < s.heap.objs.size:=by obtain ⟨o,ho,_⟩:=pl.isList;exact Heap.lt_size ho
 refine ⟨s.heap.objs.size,_,_,_,_,_,fun i=>ys.getD i false,rfl,Walks.list (in1_handled (I.ok.hd hc)) _ p (Nat.ne_of_lt hp) its.toArray,⟨⟨_,Heap.get?_push_size _ rfl,rfl,rfl⟩,?_⟩,?_,fun h' tk kk=>?_⟩
 ·obtain ⟨o,ho,r⟩:=pl.isList
  exact ⟨o,Heap.get?_push_of_some _ ho,r⟩
 ·intro i v s' Q' E' hP hQ
  obtain ⟨b,e1,rfl⟩:=bools_get rv (by simpa using hP)
  refine wpAny_truthy_bool ?_
  have e2:ys.getD i false=b:=by rw [List.getD_eq_getElem?_getD,e1];rfl
  rw [<- e2];exact hQ
 ·refine ⟨.bl (ys.all id),H,I.kept fun b o e=>kk b o ?_ (Heap.get?_push_of_some _ e),?_,q⟩
  ·intro z;have z':b=s.heap.objs.size:=by simpa using z
   exact Nat.ne_of_lt (Heap.lt_size e) z'
  ·have e3:its.toArray.size=ys.length:=by simp;omega
   rw [e3,range_all];rfl
theorem call_isinst:CallR X (.builtin "isinstance") (fun xs H Q=>∃ x t T b,xs=[x,.ty T]/\TyOf X.K H x t/\PySem.W.kitOne X.K t (.type T)=some b/\Q (.bl b) H):=by
 intro pins s σ H xs us Q I r h
 obtain ⟨x,t,T,b,rfl,ty,e,q⟩:=h
 obtain ⟨u,v,rfl,ru,rv⟩:=r.two
 cases rv
 exact isinst_ok I ru ty e fun tk=>⟨.bl b,H,I.tok tk,rfl,q⟩
def rSlS:V->Option Int->Option Int->Hp->VK->Prop:=fun x lo hi H Q=>∃ z,x=.str z/\z.length <= sizeLine/\Q (.str (Txt.slice z lo hi)) H
theorem sl_str:SlR X rSlS:=by
 intro pins s σ H x v vl vu lo hi sl Q I rx hs pl pu h
 obtain ⟨z,rfl,hz,q⟩:=h
 obtain ⟨t,rfl⟩:=(show ∃ t,v=Value.str z t from rx)
 refine ⟨"str",_,F.slot_str_getitem.lookup,typeIs_str _ _ _,?_⟩
 have key:∀ (l u:Option (Int × Tok)),vl=partValue l->vu=partValue u->lo=l.map (·.1)->hi=u.map (·.1) ->
   wpAny (model X.prog X.w) X.A (getItem (.str z t) (.ref sl)) (EP X pins σ Q) X.xe s:=by
  intro l u e1 e2 e3 e4
  subst e1 e2
  refine wpAny_getItem_str_slice (l:=l) (u:=u) (st:=none) hs rfl ?_
  unfold sliceMade
  have ee:Txt.slice z lo hi=if (((none:Option (Int × Tok)).map (·.1)).getD 1 == 1 && (slicePicked z l u none).length == z.length)=true then z else ⟨((slicePicked z l u none).filterMap (z.cps[·]?)).toArray⟩:=by
   rw [e3,e4];rfl
  split
  ·rename_i c
   rw [if_pos c] at ee
   rw [ee] at q
   exact ⟨.str z,H,I,⟨t,rfl⟩,q⟩
  ·rename_i c
   rw [if_neg c] at ee
   rw [ee] at q
   have hle:=Txt.slice_le z lo hi
   rw [ee] at hle
   exact ⟨Nat.le_trans hle hz,.str _,H,I.tok _,⟨_,rfl⟩,q⟩
 cases pl with
 | none=>
  cases pu with
  | none=>exact key none none rfl rfl rfl rfl
  | int j tj=>exact key none (some (j,tj)) rfl rfl rfl rfl
 | int i ti=>
  cases pu with
  | none=>exact key (some (i,ti)) none rfl rfl rfl rfl
  | int j tj=>exact key (some (i,ti)) (some (j,tj)) rfl rfl rfl rfl
theorem strs_of:∀ {ys:List Str} {us:List Value},Vals (ys.map V.str) us->StrsAre us ys
 | [],_,.nil=>.nil
 | y :: ys,_,.cons r t=>by
  obtain ⟨k,rfl⟩:=r
  exact .cons y k (strs_of t)
theorem mt_join:MtR X "str.join" (fun x xs H Q=>∃ (z:Str) (p:Addr) (ys:List Str),x=.str z/\xs=[.ref p]/\SqL X.K H p (ys.map V.str)/\(ys.map (·.length)).sum + ys.length * z.length <= 16777216/\Q (.str (Txt.join z ys)) H):=by
 intro pins s σ H x xs v us Q I rx rs h
 obtain ⟨z,p,ys,rfl,rfl,hq,hz,q⟩:=h
 obtain ⟨t,rfl⟩:=(show ∃ t,v=Value.str z t from rx)
 obtain ⟨u,rfl,ru⟩:=rs.one
 cases ru
 obtain ⟨its,rv,pl,hl⟩:=I.list hq
 exact join_list pl.isList (strs_of (by simpa using rv)) hz fun t' k=>⟨.str _,H,I.tok k,⟨t',rfl⟩,q⟩
theorem op_fdivB:OpR X (binaryOp .FloorDiv) (rI (fun _ j=>0 < j/\j < 2 ^ 62) fun i j=>.int (i / j)):=opI fun i j _ _ _ _ _ hc q=>by
 have hp:(0:Int) < j:=hc.1
 have hq:j < 2 ^ 62:=hc.2
 have hlog:j.natAbs.log2 < 9000:=by
  have h1:j.natAbs ≠ 0:=by omega
  have h2:j.natAbs.log2 < 62:=(Nat.log2_lt h1).mpr (by omega)
  omega
 exact floordiv_int (by omega) (by rw [Int.fdiv_eq_ediv_of_nonneg i (by omega)];exact q) (.inl (PyProof.noPylong_of_log2 hlog))
end
end L2
namespace L2
open PySem PySem.Spec PyProof.Rows
structure FunG (K:PySem.W.Frag) (mg:Str->Option Value) (x:Str) (st:Stmt) (ps:List Str):Prop where
 ex:∃ (f:Addr) (fd:FuncData),Fun K x x st f fd/\mg x=some (.ref f)/\Binds K fd ps []
structure Cal (P:Program) (w:World) (K:PySem.W.Frag) (mg:Str->Option Value) (base:Heap) (CX:CXT) (k:Nat) (x:Str) (ps:List Str) (sp:Sp):Prop where
 ex:∃ (f:Addr) (fd:FuncData),FnOk P w K mg base CX k f fd ps sp/\mg x=some (.ref f)/\PySem.W.keepIn K (.ref f)=true/\Binds K fd ps []
section
variable {P:Program} {w:World} {K:PySem.W.Frag} {mg:Str->Option Value} {base:Heap}
theorem FunG.ok {x:Str} {st:Stmt} {N ps:List Str} {k:Nat} {sp:Sp} (G:FunG K mg x st ps) (S:FnScope N ps (defScope st)) (len:∀ vs H Q E,sp vs H Q E->vs.length=ps.length)
  (hbody:∀ (f:Addr) (cdv:Value) (A:Around) (outer:List Env) (s:Shared) (H:Hp) (vs:List V) (Q:VK) (E:XK),Room k (A.deeper (envOfC x (defScope st) s.heap.objs.size f cdv))->sp vs H Q E ->
   ∃ t,PSs (cxOf CX0 P w K mg base N x (defScope st) f cdv A outer s H E).nox (defBody st) t/\t { nx:=fun _ H'=>Q .non H',rt:=Q } (start N vs) H):Cal P w K mg base CX0 (k + 1) x ps sp:=by
 obtain ⟨f,fd,F,hm,hb⟩:=G.ex
 exact ⟨f,fd,F.ok S len fun cdv A outer s H vs Q E hr h=>hbody f cdv A outer s H vs Q E hr h,hm,F.kp,hb⟩
theorem funG_mk {h:Heap} {x:Str} {st:Stmt} {f:Addr} {oc:Value} {od an:Option Addr} {osl:Array (Option Value)} {kV doc pm cdv ct:Value} {ps:List Str} (X:K.In h) (G:h.Ns mainGlobals mg)
  (a:PySem.W.nsIn K mainGlobals x=some (some (.ref f)))
  (l:K.lookup f=some ⟨oc,od,.func (PySem.W.fnOf x x (defArgs st) (defBody st) (defScope st) .none kV doc pm an cdv ct),osl⟩) (c:PySem.W.codeIn K cdv x=true) (k:PySem.W.keepIn K (.ref f)=true)
  (hb:∀ (kV doc pm:Value) (an:Option Addr) (cdv ct:Value) (us:List Value),us.length=ps.length->bindArgs (PySem.W.fnOf x x (defArgs st) (defBody st) (defScope st) .none kV doc pm an cdv ct) ⟨us,[]⟩=pure (ps.zip us)):FunG K mg x st ps:=
 ⟨f,_,fun_mk l c k,PySem.W.mg_of X G a,(fun_mk l c k).binds hb⟩
end
section
variable {X:Cx} {CX:CXT} {k:Nat} {ps:List Str} {sp:Sp} {E:XK} {x:Str} {p pos:Pos} {e:Expr} {es:List Expr} {t:TA}
theorem pe_cal (C:Cal X.prog X.w X.K X.mg X.base CX0 k x ps sp) (hr:Room k X.A) (ha:PA X (e :: es) t) (hg:Gl X x:=by rfl)
  (hdb:(x == ("__debug__" : Str))=false:=by decide) (he:starEach (e :: es) X.env=(false,eval e X.env) :: starEach es X.env:=by rfl) (hpl:(backTo pos (starEach es X.env)).any (·.1)=false:=by rfl) :
  PE X (.Call (.Name x p) (e :: es) [] pos) (tCall sp [] E0 t):=
 let ⟨_,_,F,hm,hk,hb⟩:=C.ex
 pe_call F hr hg hm hk hb .nil pass0 ha hdb he hpl
structure Blt (mg:Str->Option Value) (x:Str):Prop where
 no:mg x=none
theorem pe_blt {id:String} {r:List V->Hp->VK->Prop} (hc:CallR X (.builtin id) r) (b:Blt X.mg x) (hv:bootBuiltins x=some (.builtin id)) (ha:PA X (e :: es) t) (hg:Gl X x:=by rfl) (hn:x ≠ "__name__":=by decide) (hdb:(x == ("__debug__" : Str))=false:=by decide)
  (he:starEach (e :: es) X.env=(false,eval e X.env) :: starEach es X.env:=by rfl) (hpl:(backTo pos (starEach es X.env)).any (·.1)=false:=by rfl) :
  PE X (.Call (.Name x p) (e :: es) [] pos) (tCB r t):=pe_callB hc hg b.no hv ha hn hdb he hpl
theorem pe_ty {T:String} (b:Blt X.mg x) (hv:bootBuiltins x=some (.type T)) (hg:Gl X x:=by rfl) (hn:x ≠ "__name__":=by decide) (hd:(x == ("__debug__" : Str))=false:=by decide):PE X (.Name x pos) (tC (.ty T)):=
 pe_bltn hg b.no hv rfl hn hd
end
def Keep (S:List Addr) (H H':Hp):Prop:=∀ b o,b ∉ S->H b=some o->H' b=some o
theorem Keep.refl {S:List Addr} (H:Hp):Keep S H H:=fun _ _ _ h=>h
theorem Keep.trans {S:List Addr} {H H1 H2:Hp} (a:Keep S H H1) (b:Keep S H1 H2):Keep S H H2:=fun c o n h=>b c o n (a c o n h)
theorem Keep.mono {S S':List Addr} {H H1:Hp} (a:Keep S H H1) (h:∀ b ∈ S,b ∈ S'):Keep S' H H1:=fun c o n q=>a c o (fun z=>n (h c z)) q
theorem Keep.new {S:List Addr} {H:Hp} {p:Addr} {o:HO} (h:H p=none):Keep S H (upd H p o):=fun b u _ q=>by rw [upd_ne (ne_of_none q h)];exact q
theorem Keep.at {S:List Addr} {H:Hp} {p:Addr} {o:HO} (h:p ∈ S):Keep S H (upd H p o):=fun b u n q=>by
 rw [upd_ne (fun z=>n (by rw [z];exact h))];exact q
theorem Keep.none {S:List Addr} {H H':Hp} (k:Keep S H H') {l:Addr} (n:l ∉ S) (h:H' l=Option.none):H l=Option.none:=by
 cases q:H l with
 | none=>rfl
 | some o=>rw [k l o n q] at h;cases h
theorem Keep.same {H H':Hp} (k:Keep [] H H'):Same H H':=fun b o h=>k b o (by simp) h
theorem Keep.seq {K:PySem.W.Frag} {H H':Hp} {a:Addr} {xs:List V} (k:Keep [] H H') (h:SqL K H a xs):SqL K H' a xs:=k.same.seq h
theorem lc_by {J:It} {xs:List Str} {ix:List Nat} {g:TG} {tt:TT} {te:TE} {n:Nat} {σ:St} {H1:Hp} {Q:VK} {acc:Addr} (hn:n < sizeLine) (item:Nat->V) (Pv:Nat->List V->St->Hp->Prop)
  (h0:Pv 0 [] (stC xs ix σ) (upd H1 acc (.lst [])))
  (hacc:∀ i ys τ H,Pv i ys τ H->H acc=some (.lst ys)/\ys.length <= i)
  (hgo:∀ i ys τ H,i < n->Pv i ys τ H->J.go i H) (hyl:∀ i ys τ H x H',i < n->Pv i ys τ H->J.yld i H x H'->H'=H/\x=item i) (hst:∀ ys τ H,Pv n ys τ H->J.stop n H)
  (hs:∀ i ys τ H,i < n->Pv i ys τ H->g (item i) τ H fun τ2 H2=>tt τ2 H2 fun b H3=>
   if b=true then te τ2 H3 fun y H4=>H4 acc=some (.lst ys)/\Pv (i + 1) (ys ++ [y]) τ2 (upd H4 acc (.lst (ys ++ [y]))) else Pv (i + 1) ys τ2 H3)
  (hd:∀ ys τ H,Pv n ys τ H->Q (.ref acc) H) :
  LCW J xs ix g tt te σ H1 acc Q:=by
 refine ⟨fun i m ys τ H=>m=n - i/\i <= n/\Pv i ys τ H,⟨n,by simp,Nat.zero_le _,h0⟩,?_⟩
 rintro i m ys τ H ⟨rfl,hi,p⟩
 obtain ⟨a1,a2⟩:=hacc i ys τ H p
 refine ⟨a1,by omega,?_⟩
 by_cases hlt:i < n
 ·refine .inr ⟨hgo i ys τ H hlt p,Pv (i + 1),fun ys' τ' H' p'=>⟨n - (i + 1),by omega,rfl,hlt,p'⟩,fun x H' y=>?_⟩
  obtain ⟨rfl,rfl⟩:=hyl i ys τ H x H' hlt p y
  exact hs i ys τ _ hlt p
 ·have e:i=n:=by omega
  subst e
  exact .inl ⟨hst ys τ H p,hd ys τ H p⟩
theorem lc_range {xs:List Str} {ix:List Nat} {g:TG} {tt:TT} {te:TE} {lo:Int} {n:Nat} {σ:St} {H1:Hp} {Q:VK} {acc:Addr} (hn:n < sizeLine) (Pv:Nat->List V->St->Hp->Prop)
  (h0:Pv 0 [] (stC xs ix σ) (upd H1 acc (.lst [])))
  (hacc:∀ i ys τ H,Pv i ys τ H->H acc=some (.lst ys)/\ys.length <= i)
  (hs:∀ i ys τ H,i < n->Pv i ys τ H->g (.int (lo + i)) τ H fun τ2 H2=>tt τ2 H2 fun b H3=>
   if b=true then te τ2 H3 fun y H4=>H4 acc=some (.lst ys)/\Pv (i + 1) (ys ++ [y]) τ2 (upd H4 acc (.lst (ys ++ [y]))) else Pv (i + 1) ys τ2 H3)
  (hd:∀ ys τ H,Pv n ys τ H->Q (.ref acc) H) :
  LCW (Itr lo n) xs ix g tt te σ H1 acc Q:=
 lc_by hn (fun i=>.int (lo + i)) Pv h0 hacc (fun i _ _ _ h _=>h) (fun i _ _ _ _ _ _ _ h=>h) (fun _ _ _ _=>Nat.le_refl n) hs hd
theorem lc_str {xs:List Str} {ix:List Nat} {g:TG} {tt:TT} {te:TE} {z:Str} {σ:St} {H1:Hp} {Q:VK} {acc:Addr} (hn:z.cps.size < sizeLine) (Pv:Nat->List V->St->Hp->Prop)
  (h0:Pv 0 [] (stC xs ix σ) (upd H1 acc (.lst [])))
  (hacc:∀ i ys τ H,Pv i ys τ H->H acc=some (.lst ys)/\ys.length <= i)
  (hs:∀ i ys τ H,i < z.cps.size->Pv i ys τ H->g (.str ⟨#[z.cps.getD i 0]⟩) τ H fun τ2 H2=>tt τ2 H2 fun b H3=>
   if b=true then te τ2 H3 fun y H4=>H4 acc=some (.lst ys)/\Pv (i + 1) (ys ++ [y]) τ2 (upd H4 acc (.lst (ys ++ [y]))) else Pv (i + 1) ys τ2 H3)
  (hd:∀ ys τ H,Pv z.cps.size ys τ H->Q (.ref acc) H) :
  LCW (Its z) xs ix g tt te σ H1 acc Q:=
 lc_by hn (fun i=>.str ⟨#[z.cps.getD i 0]⟩) Pv h0 hacc (fun i _ _ _ h _=>h) (fun i _ _ _ x H' _ _ h=>⟨h.1,by
  obtain ⟨_,c,e,ex⟩:=h
  rw [ex,show z.cps.getD i 0=c by rw [Array.getD_eq_getD_getElem?,e];rfl]⟩) (fun _ _ _ _=>rfl) hs hd
theorem lc_list {K:PySem.W.Frag} {a:Addr} {its:List V} {xs:List Str} {ix:List Nat} {g:TG} {tt:TT} {te:TE} {σ:St} {H1:Hp} {Q:VK} {acc:Addr} (hn:its.length < sizeLine) (Pv:Nat->List V->St->Hp->Prop)
  (h0:Pv 0 [] (stC xs ix σ) (upd H1 acc (.lst [])))
  (hacc:∀ i ys τ H,Pv i ys τ H->H acc=some (.lst ys)/\ys.length <= i/\SqL K H a its)
  (hs:∀ i ys τ H x,its[i]?=some x->Pv i ys τ H->g x τ H fun τ2 H2=>tt τ2 H2 fun b H3=>
   if b=true then te τ2 H3 fun y H4=>H4 acc=some (.lst ys)/\Pv (i + 1) (ys ++ [y]) τ2 (upd H4 acc (.lst (ys ++ [y]))) else Pv (i + 1) ys τ2 H3)
  (hd:∀ ys τ H,Pv its.length ys τ H->Q (.ref acc) H) :
  LCW (Itl K a) xs ix g tt te σ H1 acc Q:=by
 refine lc_by hn (fun i=>its.getD i .non) Pv h0 (fun i ys τ H p=>⟨(hacc i ys τ H p).1,(hacc i ys τ H p).2.1⟩) (fun i ys τ H h p=>⟨its,its[i],(hacc i ys τ H p).2.2,by simp [h]⟩)
  (fun i ys τ H x H' h p y=>⟨y.1,?_⟩) (fun ys τ H p=>⟨its,(hacc _ ys τ H p).2.2,Nat.le_refl _⟩) (fun i ys τ H h p=>hs i ys τ H _ (by simp [List.getD_eq_getElem?_getD,h]) p) hd
 have e:=y.2 its (hacc i ys τ H p).2.2
 rw [List.getD_eq_getElem?_getD,e];rfl
theorem yes_in {g:TG} {te:TE} {x:V} {τ:St} {H:Hp} {R:St->Hp->VK} {N:St->Hp->Prop} (h:g x τ H fun τ2 H2=>te τ2 H2 (R τ2 H2)) :
  g x τ H fun τ2 H2=>tYes τ2 H2 fun b H3=>if b=true then te τ2 H3 (R τ2 H3) else N τ2 H3:=by
 have e:(fun τ2 H2=>tYes τ2 H2 fun b H3=>if b=true then te τ2 H3 (R τ2 H3) else N τ2 H3)=fun τ2 H2=>te τ2 H2 (R τ2 H2):=by
  funext τ2 H2
  show (if true=true then te τ2 H2 (R τ2 H2) else N τ2 H2)=_
  rw [if_pos rfl]
 rw [e];exact h
theorem lc_range0 {xs:List Str} {ix:List Nat} {g:TG} {te:TE} {lo:Int} {n:Nat} {σ:St} {H1:Hp} {Q:VK} {acc:Addr} (hn:n < sizeLine) (Pv:Nat->List V->St->Hp->Prop)
  (h0:Pv 0 [] (stC xs ix σ) (upd H1 acc (.lst [])))
  (hacc:∀ i ys τ H,Pv i ys τ H->H acc=some (.lst ys)/\ys.length <= i)
  (hs:∀ i ys τ H,i < n->Pv i ys τ H->g (.int (lo + i)) τ H fun τ2 H2=>te τ2 H2 fun y H4=>H4 acc=some (.lst ys)/\Pv (i + 1) (ys ++ [y]) τ2 (upd H4 acc (.lst (ys ++ [y]))))
  (hd:∀ ys τ H,Pv n ys τ H->Q (.ref acc) H):LCW (Itr lo n) xs ix g tYes te σ H1 acc Q:=
 lc_range hn Pv h0 hacc (fun i ys τ H hi p=>yes_in (R:=fun τ2 _=>fun y H4=>H4 acc=some (.lst ys)/\Pv (i + 1) (ys ++ [y]) τ2 (upd H4 acc (.lst (ys ++ [y])))) (hs i ys τ H hi p)) hd
theorem lc_str0 {xs:List Str} {ix:List Nat} {g:TG} {te:TE} {z:Str} {σ:St} {H1:Hp} {Q:VK} {acc:Addr} (hn:z.cps.size < sizeLine) (Pv:Nat->List V->St->Hp->Prop)
  (h0:Pv 0 [] (stC xs ix σ) (upd H1 acc (.lst [])))
  (hacc:∀ i ys τ H,Pv i ys τ H->H acc=some (.lst ys)/\ys.length <= i)
  (hs:∀ i ys τ H,i < z.cps.size->Pv i ys τ H->g (.str ⟨#[z.cps.getD i 0]⟩) τ H fun τ2 H2=>te τ2 H2 fun y H4=>H4 acc=some (.lst ys)/\Pv (i + 1) (ys ++ [y]) τ2 (upd H4 acc (.lst (ys ++ [y]))))
  (hd:∀ ys τ H,Pv z.cps.size ys τ H->Q (.ref acc) H):LCW (Its z) xs ix g tYes te σ H1 acc Q:=
 lc_str hn Pv h0 hacc (fun i ys τ H hi p=>yes_in (R:=fun τ2 _=>fun y H4=>H4 acc=some (.lst ys)/\Pv (i + 1) (ys ++ [y]) τ2 (upd H4 acc (.lst (ys ++ [y])))) (hs i ys τ H hi p)) hd
theorem lc_list0 {K:PySem.W.Frag} {a:Addr} {its:List V} {xs:List Str} {ix:List Nat} {g:TG} {te:TE} {σ:St} {H1:Hp} {Q:VK} {acc:Addr} (hn:its.length < sizeLine) (Pv:Nat->List V->St->Hp->Prop)
  (h0:Pv 0 [] (stC xs ix σ) (upd H1 acc (.lst [])))
  (hacc:∀ i ys τ H,Pv i ys τ H->H acc=some (.lst ys)/\ys.length <= i/\SqL K H a its)
  (hs:∀ i ys τ H x,its[i]?=some x->Pv i ys τ H->g x τ H fun τ2 H2=>te τ2 H2 fun y H4=>H4 acc=some (.lst ys)/\Pv (i + 1) (ys ++ [y]) τ2 (upd H4 acc (.lst (ys ++ [y]))))
  (hd:∀ ys τ H,Pv its.length ys τ H->Q (.ref acc) H):LCW (Itl K a) xs ix g tYes te σ H1 acc Q:=
 lc_list hn Pv h0 hacc (fun i ys τ H x hi p=>yes_in (R:=fun τ2 _=>fun y H4=>H4 acc=some (.lst ys)/\Pv (i + 1) (ys ++ [y]) τ2 (upd H4 acc (.lst (ys ++ [y])))) (hs i ys τ H x hi p)) hd
end L2
namespace L2
open PySem PySem.Spec PyProof.Rows
section
variable {X:Cx}
def rIxH:R2:=fun x y H Q=>∃ p xs i v,x=.ref p/\y=.int i/\H p=some (.lst xs)/\atI xs i=some v/\Q v H
theorem ix_lstH:IxR X rIxH:=fun value slice pins s σ H x y v u Q I rx ry hz hs=>by
 obtain ⟨p,xs,i,z,a,b,c,d,e⟩:=hz
 exact ix_list value slice pins s σ H x y v u Q I rx ry ⟨p,xs,i,z,a,b,.of c,d,e⟩ hs
def rIxTH:R2:=fun x y H Q=>∃ p xs i v,x=.ref p/\y=.int i/\H p=some (.tup xs)/\atI xs i=some v/\Q v H
theorem ix_tupH:IxR X rIxTH:=fun value slice pins s σ H x y v u Q I rx ry hz hs=>by
 obtain ⟨p,xs,i,z,a,b,c,d,e⟩:=hz
 exact ix_tup value slice pins s σ H x y v u Q I rx ry ⟨p,xs,i,z,a,b,.of c,d,e⟩ hs
end
end L2
namespace L2
open PySem PySem.Spec PyProof.Rows
def CompS (N:List Str) (sc:Scope) (xs:List Str) (ix:List Nat) (scope:Scope):Prop:=
 scope.kind=.function/\(∀ y ∈ scope.names,y.2 ≠ .cell)/\(∀ y ∈ scope.names,y.2=.local->scope.names.lookup y.1=some .local) /\
 (∀ y ∈ scope.names,y.2=.free->sc.names.lookup y.1=some .cell \/ sc.names.lookup y.1=some .free)/\(∀ x ∈ xs,scope.names.lookup x=some .local) /\
 (xs ++ ix.map (fun i=>N.getD i "")).Nodup/\(∀ i ∈ ix,i < N.length)/\(∀ i ∈ ix,scope.names.lookup (N.getD i "")=some .free)
instance {N:List Str} {sc:Scope} {xs:List Str} {ix:List Nat} {scope:Scope}:Decidable (CompS N sc xs ix scope):=by unfold CompS;infer_instance
theorem CompS.at {X:Cx} {N:List Str} {sc:Scope} {xs:List Str} {ix:List Nat} {scope:Scope} (S:CompS N sc xs ix scope) (hN:X.N=N) (hsc:X.env.scope=sc):CompScope X xs ix scope:=by
 obtain ⟨a,b,c,d,e,f,g,h⟩:=S
 subst hN hsc
 exact ⟨a,b,c,fun n hn=>d (n,.free) hn rfl,e,f,g,h⟩
theorem pe_lc1 {X:Cx} {N:List Str} {sc:Scope} {x:Str} {ix:List Nat} {scope:Scope} {elt iter:Expr} {ifs:List Expr} {px pos:Pos} {wi:TI} {tt:TT} {te:TE}
  (hS:CompS N sc [x] ix scope) (hi:PI X (.Name x px) iter wi)
  (ht:∀ C fp s H,PTs (cxC X [x] ix scope C fp s H) ifs tt) (he:∀ C fp s H,PE (cxC X [x] ix scope C fp s H) elt te)
  (hN:X.N=N:=by rfl) (hsc:X.env.scope=sc:=by rfl) (hc:X.calm=true:=by rfl)
  (hs:∀ x,foldedSetIterable iter X.env x=pure x:=by intro _;rfl) :
  PE X (.ListComp elt [⟨.Name x px,iter,ifs,0⟩] scope pos) (tLC [x] ix wi (gName 0) tt te):=by
 have S:=hS.at (X:=X) hN hsc
 have hl:∀ C fp s H,(cxC X [x] ix scope C fp s H).env.scope.names.lookup x=some .local:=fun _ _ _ _=>lookup_relabel_local (S.own x (by simp))
 exact pe_lc S hc hi (fun C fp s H=>pg_name S.nd rfl (Or.inl (hl C fp s H)) (.inr (hl C fp s H))) ht he hs
theorem ps_setLC1 {X:Cx} {N:List Str} {sc:Scope} {x y:Str} {ix:List Nat} {scope:Scope} {elt iter:Expr} {ifs:List Expr} {px cpos pos pos':Pos} {wi:TI} {tt:TT} {te:TE} {i:Nat}
  (hN':X.N.Nodup) (hin:X.N[i]?=some y) (hx:Loc X.env.scope y)
  (hS:CompS N sc [x] ix scope) (hi:PI X (.Name x px) iter wi)
  (ht:∀ C fp s H,PTs (cxC X [x] ix scope C fp s H) ifs tt) (he:∀ C fp s H,PE (cxC X [x] ix scope C fp s H) elt te)
  (hN:X.N=N:=by rfl) (hsc:X.env.scope=sc:=by rfl) (hc:X.calm=true:=by rfl)
  (hsw:swapsWith (.ListComp elt [⟨.Name x px,iter,ifs,0⟩] scope cpos) (some (.Name y pos')) pos.line X.env=pure true:=by rfl)
  (hf:X.fn y=true \/ X.env.scope.names.lookup y=some .local:=by first | exact .inl rfl | exact .inr rfl | assumption)
  (hs:∀ x,foldedSetIterable iter X.env x=pure x:=by intro _;rfl) :
  PS X (.Assign [.Name y pos'] (.ListComp elt [⟨.Name x px,iter,ifs,0⟩] scope cpos) pos) (tAsg (tLC [x] ix wi (gName 0) tt te) (gName i)):=by
 have S:=hS.at (X:=X) hN hsc
 have hl:∀ C fp s H,(cxC X [x] ix scope C fp s H).env.scope.names.lookup x=some .local:=fun _ _ _ _=>lookup_relabel_local (S.own x (by simp))
 exact ps_setLC hN' hin hx S hc hi (fun C fp s H=>pg_name S.nd rfl (Or.inl (hl C fp s H)) (.inr (hl C fp s H))) ht he hsw hf hs
theorem len_app (x y:Str):(x ++ y).length=x.length + y.length:=by
 show (x.cps ++ y.cps).size=_
 simp [Str.length]
end L2
namespace L2
open PySem PySem.Spec PyProof.Rows
theorem Keep.drop {S:List Addr} {H H':Hp} {a:Addr} (k:Keep (a :: S) H H') (h:H a=Option.none):Keep S H H':=fun b o n q=>k b o (fun z=>(List.mem_cons.mp z).elim (fun e=>by rw [e,h] at q;cases q) n) q
theorem upd_none {H:Hp} {p a:Addr} {o:HO} (h:upd H p o a=Option.none):H a=Option.none/\a ≠ p:=by
 by_cases e:a=p
 ·rw [e,upd_same] at h;cases h
 ·rw [upd_ne e] at h;exact ⟨h,e⟩
theorem join_len (ys:List Str):(Txt.join (Str.ofString "") ys).length=(ys.map (·.length)).sum:=by
 show (Builtin.Str.glued (Str.ofString "") ys).length=_
 rw [size_glued]
 show _ + (ys.length - 1) * 0=_
 omega
theorem sum_ones:∀ (ys:List Str),(∀ z ∈ ys,z.length=1)->(ys.map (·.length)).sum=ys.length
 | [],_=>rfl
 | y :: ys,h=>by
  rw [List.map_cons,List.sum_cons,h y List.mem_cons_self,sum_ones ys fun z hz=>h z (List.mem_cons_of_mem _ hz),List.length_cons]
  omega
end L2
namespace L2
theorem atI_in {α:Type} {xs:List α} {i:Int} (h0:0 <= i) (h1:i < xs.length):∃ v,atI xs i=some v/\xs[i.toNat]?=some v:=by
 have hl:i.toNat < xs.length:=by omega
 refine ⟨xs[i.toNat],?_,List.getElem?_eq_getElem hl⟩
 have e:=atI_nat (List.getElem?_eq_getElem hl)
 rwa [Int.toNat_of_nonneg h0] at e
end L2
namespace L2
open PySem PySem.Spec PyProof.Rows
structure Glo (mg:Str->Option Value) (x:Str) (v:V):Prop where
 ex:∃ u,mg x=some u/\RelV v u
theorem pe_glo {X:Cx} {x:Str} {v:V} {pos:Pos} (g:Glo X.mg x v) (hg:Gl X x:=by rfl) (hd:(x == ("__debug__" : Str))=false:=by decide):PE X (.Name x pos) (tC v):=
 let ⟨_,hm,r⟩:=g.ex
 pe_glob hg hm r hd
inductive PlainT (K:PySem.W.Frag) (H:Hp):V->String->Prop where
 | non:PlainT K H .non "NoneType"
 | bl (x:Bool):PlainT K H (.bl x) "bool"
 | int (i:Int):PlainT K H (.int i) "int"
 | str (x:Str):PlainT K H (.str x) "str"
 | lst {a:Addr} {xs:List V} (e:H a=some (.lst xs)):PlainT K H (.ref a) "list"
 | tup {a:Addr} {xs:List V} (e:H a=some (.tup xs)):PlainT K H (.ref a) "tuple"
 | dK {a:Addr} {kvs:List (Key × V)} (e:H a=some (.dK kvs)):PlainT K H (.ref a) "dict"
theorem PlainT.ty {K:PySem.W.Frag} {H:Hp} {x:V} {T:String} (h:PlainT K H x T):TyOf K H x (.type T):=by
 cases h with
 | non=>exact .non
 | bl b=>exact .bl b
 | int i=>exact .int i
 | str z=>exact .str z
 | lst e=>exact .lst e
 | tup e=>exact .tup e
 | dK e=>exact .dK e
theorem PlainT.kit {K:PySem.W.Frag} {H:Hp} {x:V} {T:String} (h:PlainT K H x T):PySem.W.kitOne K (.type T) (.type "str")=some (T == "str")/\PySem.W.kitOne K (.type T) (.type "int")=some (T == "int" || T == "bool") /\
  PySem.W.kitOne K (.type T) (.type "bool")=some (T == "bool")/\PySem.W.kitOne K (.type T) (.type "list")=some (T == "list")/\PySem.W.kitOne K (.type T) (.type "tuple")=some (T == "tuple"):=by
 cases h <;> exact ⟨rfl,rfl,rfl,rfl,rfl⟩
theorem PlainT.keep {K:PySem.W.Frag} {H H':Hp} {x:V} {T:String} (h:PlainT K H x T) (k:Keep [] H H'):PlainT K H' x T:=by
 cases h with
 | non=>exact .non
 | bl b=>exact .bl b
 | int i=>exact .int i
 | str z=>exact .str z
 | lst e=>exact .lst (k _ _ (by simp) e)
 | tup e=>exact .tup (k _ _ (by simp) e)
 | dK e=>exact .dK (k _ _ (by simp) e)
abbrev abc:Str:="abcdefghijklmnopqrstuvwxyz"
def letterB (c:Nat):Bool:=!(Builtin.Str.occurrences abc ⟨#[c]⟩ 0 abc.length 1).isEmpty
def nameS (z:Str):Bool:=decide (1 <= z.length) && decide (z.length <= 8) && z.cps.toList.all letterB
def nameV:V->Bool
 | .str z=>nameS z
 | _=>false
theorem all_map_id {α:Type} (l:List α) (f:α->Bool):(l.map f).all id=l.all f:=by rw [List.all_map];rfl
end L2
namespace L2
open PySem
theorem bo_isinstance:bootBuiltins "isinstance"=some (.builtin "isinstance"):=by decide +kernel
theorem bo_len:bootBuiltins "len"=some (.builtin "len"):=by decide +kernel
theorem bo_all:bootBuiltins "all"=some (.builtin "all"):=by decide +kernel
theorem bo_sorted:bootBuiltins "sorted"=some (.builtin "sorted"):=by decide +kernel
theorem bo_str:bootBuiltins "str"=some (.type "str"):=by decide +kernel
theorem bo_int:bootBuiltins "int"=some (.type "int"):=by decide +kernel
theorem bo_bool:bootBuiltins "bool"=some (.type "bool"):=by decide +kernel
theorem bo_list:bootBuiltins "list"=some (.type "list"):=by decide +kernel
theorem bo_tuple:bootBuiltins "tuple"=some (.type "tuple"):=by decide +kernel
theorem bo_set:bootBuiltins "set"=some (.type "set"):=by decide +kernel
end L2
namespace L2
theorem ifF {c:Bool} {A B:Prop} (h:c=false) (k:B):if c=true then A else B:=by rw [h];exact iteF k
theorem ifT {c:Bool} {A B:Prop} (h:c=true) (k:A):if c=true then A else B:=by rw [h];exact iteT k
end L2
namespace L2
open PySem PySem.Spec PyProof.Rows
def eqT (xs ys:List V):Bool:=xs.length == ys.length && (List.zipWith eqV xs ys).all id
theorem eqV_refl {x:V} (f:flatV x=true):eqV x x=true:=by
 cases x with
 | non=>rfl
 | bl b=>cases b <;> rfl
 | int i=>show (i == i)=true;simp
 | str z=>show (z == z)=true;simp
 | _=>exact absurd (show false=true from f) Bool.false_ne_true
theorem zip_all:∀ (xs ys:List V),(List.zipWith eqV xs ys).all id=(List.range (min xs.length ys.length)).all fun j=>eqV (xs.getD j .non) (ys.getD j .non)
 | [],_=>by simp
 | _ :: _,[]=>by simp
 | x :: xs,y :: ys=>by
  have e:min (x :: xs).length (y :: ys).length=min xs.length ys.length + 1:=by simp [Nat.succ_min_succ]
  rw [e,List.range_succ_eq_map,List.all_cons,List.all_map,List.zipWith_cons_cons,List.all_cons,zip_all xs ys]
  rfl
theorem eqT_refl:∀ {xs:List V},xs.all flatV=true->eqT xs xs=true:=fun {xs} f=>by
 unfold eqT
 rw [beq_self_eq_true,Bool.true_and,zip_all,List.all_eq_true]
 intro j hj
 have hl:j < xs.length:=by have:=List.mem_range.mp hj;omega
 rw [List.getD_eq_getElem?_getD,List.getElem?_eq_getElem hl]
 exact eqV_refl (List.all_eq_true.mp f _ (List.getElem_mem hl))
section
variable {X:Cx}
theorem eqAt_tup {pins:List (Addr × Obj)} {σ:St} {H:Hp} {s:Shared} {A:Around} {a b:Addr} {xs ys:List V} (I:Inv X pins σ H s) (h1:SqT X.K H a xs) (h2:SqT X.K H b ys) (f1:xs.all flatV=true) (f2:ys.all flatV=true)
  (hu:A.units < cLine):SeqAt.EqAt A s (.ref a) (.ref b) (eqT xs ys):=by
 by_cases e:a=b
 ·subst e
  have e2:=I.tuple_inj h1 h2
  subst e2
  rw [eqT_refl f1]
  exact SeqAt.EqAt.same _
 ·obtain ⟨i1,r1,t1,_⟩:=I.tuple h1
  obtain ⟨i2,r2,t2,_⟩:=I.tuple h2
  have l1:=r1.length
  have l2:=r2.length
  have key:=SeqAt.RcAt.tuples (A:=A) (s:=s) (l:=a) (b:=b) (e:=fun j=>eqV (xs.getD j .non) (ys.getD j .non)) (show s.heap.IsTuple a i1.toArray from t1) (show s.heap.IsTuple b i2.toArray from t2) hu (fun j g1 g2=>by
   have g1':j < i1.length:=by simpa using g1
   have g2':j < i2.length:=by simpa using g2
   obtain ⟨u,eu,ru⟩:=r1.get (i:=j) (List.getElem?_eq_getElem (by omega:j < xs.length))
   obtain ⟨v,ev,rv⟩:=r2.get (i:=j) (List.getElem?_eq_getElem (by omega:j < ys.length))
   have eu':i1.toArray[j]=u:=by
    rw [List.getElem?_eq_getElem g1'] at eu
    simpa using Option.some.inj eu
   have ev':i2.toArray[j]=v:=by
    rw [List.getElem?_eq_getElem g2'] at ev
    simpa using Option.some.inj ev
   rw [eu',ev']
   have q1:xs.getD j .non=xs[j]'(by omega):=by rw [List.getD_eq_getElem?_getD,List.getElem?_eq_getElem (by omega)];rfl
   have q2:ys.getD j .non=ys[j]'(by omega):=by rw [List.getD_eq_getElem?_getD,List.getElem?_eq_getElem (by omega)];rfl
   show SeqAt.EqAt _ _ _ _ (eqV (xs.getD j .non) (ys.getD j .non))
   rw [q1,q2]
   exact eqAt_V ru rv (List.all_eq_true.mp f1 _ (List.getElem_mem _)) (List.all_eq_true.mp f2 _ (List.getElem_mem _)))
  have ee:eqT xs ys=((List.range (min i1.toArray.size i2.toArray.size)).all (fun j=>eqV (xs.getD j .non) (ys.getD j .non)) && i1.toArray.size == i2.toArray.size):=by
   unfold eqT
   rw [zip_all,List.size_toArray,List.size_toArray,<- l1,<- l2,Bool.and_comm]
  rw [ee]
  exact SeqAt.EqAt.of_refs e key
def Rows (H:Hp) (p:Addr) (rows:List (List V)):Prop:=∃ ps:List Addr,H p=some (.lst (ps.map V.ref))/\Paired (fun q r=>H q=some (.tup r)) ps rows
theorem paired_get {α β:Type} {F:α->β->Prop} {xs:List α} {ys:List β} (h:Paired F xs ys):∀ (i:Nat) (x:α),xs[i]?=some x->∃ y,ys[i]?=some y/\F x y:=by
 induction h with
 | nil=>intro i x h;simp at h
 | cons r _ ih=>
  intro i x h
  cases i with
  | zero=>simp at h;subst h;exact ⟨_,rfl,r⟩
  | succ i=>
   obtain ⟨y,h1,h2⟩:=ih i x (by simpa using h)
   exact ⟨y,by simpa using h1,h2⟩
theorem paired_erase {α β:Type} {F:α->β->Prop}:∀ {xs:List α} {ys:List β} (i:Nat),Paired F xs ys->Paired F (xs.eraseIdx i) (ys.eraseIdx i)
 | _,_,_,.nil=>.nil
 | _,_,0,.cons _ t=>t
 | _,_,i + 1,.cons r t=>.cons r (paired_erase i t)
theorem paired_snoc {α β:Type} {F:α->β->Prop} {a:α} {b:β} {xs:List α} {ys:List β} (h:Paired F xs ys) (r:F a b):Paired F (xs ++ [a]) (ys ++ [b]):=by
 induction h with
 | nil=>exact .cons r .nil
 | cons q _ ih=>exact .cons q ih
theorem paired_len {α β:Type} {F:α->β->Prop} {xs:List α} {ys:List β} (h:Paired F xs ys):xs.length=ys.length:=by
 induction h with
 | nil=>rfl
 | cons _ _ ih=>exact congrArg Nat.succ ih
theorem Rows.keep {H H':Hp} {p:Addr} {rows:List (List V)} (h:Rows H p rows) (k:Keep [] H H'):Rows H' p rows:=by
 obtain ⟨ps,e,r⟩:=h
 exact ⟨ps,k _ _ (by simp) e,L2.Paired.mapP r fun q x z=>k _ _ (by simp) z⟩
theorem refs_of:∀ {ps:List Addr} {us:List Value},Vals (ps.map V.ref) us->us=ps.map Value.ref
 | [],_,.nil=>rfl
 | p :: ps,_,.cons r t=>by cases r;rw [List.map_cons,refs_of t]
def eqRef (H:Hp) (xs:List V) (u:Value):Bool:=match u with
 | .ref q=>(match H q with | some (.tup r)=>eqT r xs | _=>false)
 | _=>false
theorem any_eqRef {H:Hp} {xs:List V}:∀ {ps:List Addr} {rows:List (List V)},Paired (fun q r=>H q=some (.tup r)) ps rows->(ps.map Value.ref).any (eqRef H xs)=rows.any fun r=>eqT r xs
 | _,_,.nil=>rfl
 | p :: ps,r :: rows,.cons e t=>by
  rw [List.map_cons,List.any_cons,List.any_cons,any_eqRef t]
  have e1:eqRef H xs (.ref p)=eqT r xs:=by unfold eqRef;simp only [e]
  rw [e1]
theorem mem_rowsAt {pins:List (Addr × Obj)} {σ:St} {H:Hp} {s:Shared} {A:Around} {t:Addr} {xs:List V} (I:Inv X pins σ H s) (ht:H t=some (.tup xs)) (fx:xs.all flatV=true) (hu:A.units < cLine) :
  ∀ {ps:List Addr} {rows:List (List V)},Paired (fun q r=>H q=some (.tup r)) ps rows->(∀ r ∈ rows,r.all flatV=true)->∀ u ∈ ps.map Value.ref,SeqAt.EqAt A s u (.ref t) (eqRef H xs u)
 | _,_,.nil,_=>fun u hu'=>by cases hu'
 | p :: ps,r :: rows,.cons e tl,f=>fun u hu'=>by
  rcases List.mem_cons.mp hu' with rfl | hu'
  ·have e1:eqRef H xs (.ref p)=eqT r xs:=by unfold eqRef;simp only [e]
   rw [e1]
   exact eqAt_tup I (.of e) (.of ht) (f r List.mem_cons_self) fx hu
  ·exact mem_rowsAt I ht fx hu tl (fun r' hr=>f r' (List.mem_cons_of_mem _ hr)) u hu'
def rInT (neg:Bool):R2:=fun x y H Q=>∃ p t xs rows,y=.ref p/\x=.ref t/\Rows H p rows/\H t=some (.tup xs)/\xs.all flatV=true/\(∀ r ∈ rows,r.all flatV=true)/\Q (.bl (if neg then !rows.any (fun r=>eqT r xs) else rows.any fun r=>eqT r xs)) H
theorem in1_units {A:Around} (h:A.units + 1 < cLine):A.in1.units < cLine:=by
 have e:A.in1.units=A.units + 1:=rfl
 omega
theorem op_inT (hu:X.A.units + 1 < cLine):OpR X (compareOp .In) (rInT false):=by
 intro pins s σ H x y v u Q I rx ry h
 obtain ⟨p,t,xs,rows,rfl,rfl,⟨ps,hp,hr⟩,ht,fx,fr,q⟩:=h
 cases ry;cases rx
 obtain ⟨its,r,pl,hz⟩:=I.list (.of hp)
 have e:=refs_of r
 subst e
 refine SeqAt.in_listAt (eqRef H xs) pl.isList (fun w hw=>mem_rowsAt I ht fx (in1_units hu) hr fr w (by simpa using hw)) ⟨.bl _,H,I,rfl,?_⟩
 rw [show (ps.map Value.ref).toArray.any (eqRef H xs)=(ps.map Value.ref).any (eqRef H xs) by simp,any_eqRef hr]
 exact q
theorem op_notInT (hu:X.A.units + 1 < cLine):OpR X (compareOp .NotIn) (rInT true):=by
 intro pins s σ H x y v u Q I rx ry h
 obtain ⟨p,t,xs,rows,rfl,rfl,⟨ps,hp,hr⟩,ht,fx,fr,q⟩:=h
 cases ry;cases rx
 obtain ⟨its,r,pl,hz⟩:=I.list (.of hp)
 have e:=refs_of r
 subst e
 refine SeqAt.notIn_listAt (eqRef H xs) pl.isList (fun w hw=>mem_rowsAt I ht fx (in1_units hu) hr fr w (by simpa using hw)) ⟨.bl _,H,I,rfl,?_⟩
 rw [show (ps.map Value.ref).toArray.any (eqRef H xs)=(ps.map Value.ref).any (eqRef H xs) by simp,any_eqRef hr]
 exact q
theorem map_erase {α β:Type} (f:α->β):∀ (l:List α) (j:Nat),(l.map f).eraseIdx j=(l.eraseIdx j).map f
 | [],_=>rfl
 | _ :: _,0=>rfl
 | x :: l,j + 1=>by simp [map_erase f l j]
theorem paired_refs:∀ ps:List Addr,Vals (ps.map V.ref) (ps.map Value.ref)
 | []=>.nil
 | _ :: ps=>.cons rfl (paired_refs ps)
open MeetsSeq in
open AutoSeq1 (wpAny_loadPart') in
theorem rem_loopH (l:Addr) (items:Array Value) (n:Nat) (x:Value) (e:Value->Bool) (j:Nat) (hj:j < items.size) (hit:e items[j]=true) (hs1:items.size <= sizeLine) (k:Nat) :
  ∀ i:Nat,j - i=k->i <= j->(∀ m (hm:m < items.size),i <= m->m < j->e items[m]=false)->Meets (Builtin.«list.remove.loop» ⟨[.ref l,x,rawInt i],[]⟩)
   (fun A R s=>s.heap.get? l=some { cls:=.type "list",dict:=none,data:=.seq items n,slots:=#[] }/\(∀ y,y ∈ items->SeqAt.EqAt A.in1 s y x (e y)) /\
    R (.ok (.ret .none)) { s with heap:=s.heap.update l (Obj.mapSeq fun xs=>xs.eraseIdxIfInBounds j) }):=by
 induction k with
 | zero=>
  intro i hk hij hno prog w A R s h
  obtain ⟨hp,g,d,tk,os⟩:=s
  obtain ⟨hl,he,h⟩:=h
  obtain rfl:i=j:=by omega
  wp_walk using wpAny_loadPart' hl
  have at_i:items[((i:Nat):Int).toNat]?=some items[i]:=by simp [hj]
  rw [at_i]
  refine wpAny_bind (he _ (Array.getElem_mem hj) prog w _ _ ?_)
  rw [hit]
  have fits:(items.eraseIdxIfInBounds i).size <= sizeLine + 1:=Nat.le_trans (size_erased items i) (Nat.le_succ_of_le hs1)
  wp_walk using (wpAny_updateSeq hl rfl (hz:=hs1) (_hz':=fits)),wpAny_loadPart' hl
  simpa using h
 | succ k ih=>
  intro i hk hij hno prog w A R s h
  obtain ⟨hp,g,d,tk,os⟩:=s
  obtain ⟨hl,he,h⟩:=h
  have less:i < items.size:=by omega
  wp_walk using wpAny_loadPart' hl
  have at_i:items[((i:Nat):Int).toNat]?=some items[i]:=by simp [less]
  have one:((i:Int) + 1)=((i + 1:Nat):Int):=by push_cast;rfl
  rw [at_i]
  refine wpAny_bind (he _ (Array.getElem_mem less) prog w _ _ ?_)
  rw [hno i less (Nat.le_refl _) (by omega)]
  wp_walk
  rw [one]
  refine ⟨plainId_quiet plain_remove_loop _,codeAny_builtin entry_remove_loop ?_⟩
  rw [Around.under_plainId plain_remove_loop _]
  exact ih (i + 1) (by omega) (by omega) (fun m hm h1 h2=>hno m hm (by omega) h2) prog w A R _ ⟨hl,he,h⟩
open MeetsSeq in
open AutoSeq1 (wpAny_loadPart') in
theorem removeH (l:Addr) (items:Array Value) (n:Nat) (x:Value) (e:Value->Bool) (j:Nat) (hj:j < items.size) (hit:e items[j]=true) (hno:∀ m (hm:m < items.size),m < j->e items[m]=false) (hs1:items.size <= sizeLine) :
  Meets (Builtin.«list.remove» ⟨[.ref l,x],[]⟩)
   (fun A R s=>s.heap.get? l=some { cls:=.type "list",dict:=none,data:=.seq items n,slots:=#[] }/\(∀ y,y ∈ items->SeqAt.EqAt A.in1 s y x (e y)) /\
    R (.ok (.ret .none)) { s with heap:=s.heap.update l (Obj.mapSeq fun xs=>xs.eraseIdxIfInBounds j) }):=by
 intro prog w A R s h
 obtain ⟨hp,g,d,tk,os⟩:=s
 obtain ⟨hl,he,h⟩:=h
 wp_walk using wpAny_loadPart' hl
 refine ⟨plainId_quiet plain_remove_loop _,codeAny_builtin entry_remove_loop ?_⟩
 rw [Around.under_plainId plain_remove_loop _]
 exact rem_loopH l items n x e j hj hit hs1 _ 0 rfl (Nat.zero_le _) (fun m hm _ h2=>hno m hm h2) prog w A R _ ⟨hl,he,h⟩
def rRemT:V->List V->Hp->VK->Prop:=fun x vs H Q=>∃ l t xs rows j ps,x=.ref l/\vs=[.ref t]/\H l=some (.lst (ps.map V.ref))/\Paired (fun q r=>H q=some (.tup r)) ps rows/\H t=some (.tup xs)/\xs.all flatV=true/\(∀ r ∈ rows,r.all flatV=true) /\
 (∃ r,rows[j]?=some r/\eqT r xs=true)/\(∀ m r,m < j->rows[m]?=some r->eqT r xs=false)/\Q .non (upd H l (.lst ((ps.eraseIdx j).map V.ref)))
theorem mt_removeT (hu:X.A.units + 1 < cLine):MtR X "list.remove" rRemT:=by
 intro pins s σ H x vs v us Q I rx rv h
 obtain ⟨l,t,xs,rows,j,ps,rfl,rfl,hH,hp,ht,fx,fr,⟨r,hr,hit⟩,hno,q⟩:=h
 cases rx
 obtain ⟨u,rfl,ru⟩:=rv.one
 cases ru
 obtain ⟨z,its,n,rr,hl,e⟩:=I.lstM hH
 have ei:=refs_of rr
 subst ei
 have lps:=paired_len hp
 have hj:j < ps.length:=by have:=(List.getElem?_eq_some_iff.mp hr).1;omega
 have eqj:∀ (m:Nat) (hm:m < (ps.map Value.ref).toArray.size),∃ r',rows[m]?=some r'/\eqRef H xs (ps.map Value.ref).toArray[m]=eqT r' xs:=fun m hm=>by
  have hm':m < ps.length:=by simpa using hm
  obtain ⟨r',e1,e2⟩:=paired_get hp m ps[m] (List.getElem?_eq_getElem hm')
  refine ⟨r',e1,?_⟩
  have e3:(ps.map Value.ref).toArray[m]=Value.ref ps[m]:=by simp
  rw [e3];unfold eqRef;simp only [e2]
 have hz:(ps.map Value.ref).toArray.size <= sizeLine:=by rw [List.size_toArray,List.length_map];rw [List.length_map] at z;exact z
 refine call_meets F.slot_list_remove ⟨_,e,rfl⟩ F.entry_list_remove (F.args_list_remove_2 _ _) (removeH l (ps.map Value.ref).toArray n (.ref t) (eqRef H xs) j (by simpa using hj) ?_ ?_ hz) ⟨e,?_,?_⟩
 ·obtain ⟨r',e1,e2⟩:=eqj j (by simpa using hj)
  rw [hr] at e1;cases e1
  rw [e2];exact hit
 ·intro m hm hlt
  obtain ⟨r',e1,e2⟩:=eqj m hm
  rw [e2];exact hno m r' hlt e1
 ·intro y hy
  exact mem_rowsAt I ht fx (in1_units hu) hp fr y (by simpa using hy)
 ·refine ⟨.non,_,I.lset (its':=(ps.eraseIdx j).map Value.ref) (ys:=(ps.eraseIdx j).map V.ref) hH e ?_ ?_ ?_,rfl,q⟩
  ·simp [Array.eraseIdxIfInBounds,hj,map_erase]
  ·exact paired_refs _
  ·rw [List.length_map] at z ⊢
   exact Nat.le_trans (len_erase ps j) z
def rNeE (neg:Bool):R2:=fun x y H Q=>∃ a b xs,x=.ref a/\y=.ref b/\H a=some (.lst xs)/\H b=some (.lst [])/\a ≠ b/\Q (.bl (if neg then !xs.isEmpty else xs.isEmpty)) H
theorem op_eqE (hu:X.A.units < cLine):OpR X (compareOp .Eq) (rNeE false):=by
 intro pins s σ H x y v u Q I rx ry h
 obtain ⟨a,b,xs,rfl,rfl,ha,hb,hne,q⟩:=h
 cases rx;cases ry
 obtain ⟨i1,r1,p1,_⟩:=I.list (.of ha)
 obtain ⟨i2,r2,p2,_⟩:=I.list (.of hb)
 cases r2
 cases xs with
 | nil=>
  cases r1
  exact SeqAt.eq_listAt (e:=fun _=>true) p1.isList p2.isList rfl hu (fun j h1=>by simp at h1) ⟨.bl _,H,I,rfl,q⟩
 | cons x xs=>
  have l1:=r1.length
  refine SeqAt.eq_list_lengthsAt p1.isList p2.isList ?_ hu ⟨.bl false,H,I,rfl,q⟩
  rw [List.size_toArray,List.size_toArray,<- l1]
  rfl
theorem tys_of:∀ {Ts:List String} {us:List Value},Vals (Ts.map V.ty) us->us=Ts.map Value.type
 | [],_,.nil=>rfl
 | _ :: Ts,_,.cons r t=>by cases r;rw [List.map_cons,tys_of t]
theorem call_isinstT:CallR X (.builtin "isinstance") (fun xs H Q=>∃ (x:V) (T:String) (p:Addr) (Ts:List String) (b:Bool),xs=[x,.ref p]/\PlainT X.K H x T/\H p=some (.tup (Ts.map V.ty))/\PySem.W.kitAny X.K (.type T) (Ts.map Value.type)=some b/\Q (.bl b) H):=by
 intro pins s σ H xs us Q I r h
 obtain ⟨x,T,p,Ts,b,rfl,pt,hp,e,q⟩:=h
 obtain ⟨u,v,rfl,ru,rv⟩:=r.two
 cases rv
 obtain ⟨its,rt,it,_⟩:=I.tuple (.of hp)
 have ei:=tys_of rt
 subst ei
 obtain ⟨⟨cls,dd,data,sl⟩,ho,hc,n,hd⟩:=id it
 simp only at hc hd
 subst hc hd
 have fin:∀ tk,EP X pins σ Q (.bool b) { s with toks:=tk }:=fun tk=>⟨.bl b,H,I.tok tk,rfl,q⟩
 cases pt with
 | non=>cases (show u=Value.none from ru);exact PySem.W.kia_tup PySem.W.kitx_none I.kIn True.intro ho e (fun z=>nomatch z) fin
 | bl y=>cases (show u=Value.bool y from ru);exact PySem.W.kia_tup PySem.W.kitx_bool I.kIn True.intro ho e (fun z=>nomatch z) fin
 | int i=>obtain ⟨t,q'⟩:=(show ∃ t,u=Value.int i t from ru);cases q';exact PySem.W.kia_tup PySem.W.kitx_int I.kIn True.intro ho e (fun z=>nomatch z) fin
 | str y=>obtain ⟨t,q'⟩:=(show ∃ t,u=Value.str y t from ru);cases q';exact PySem.W.kia_tup PySem.W.kitx_str I.kIn True.intro ho e (fun z=>nomatch z) fin
 | @lst a xs ea=>
  cases (show u=Value.ref a from ru)
  obtain ⟨_,_,n',_,h1⟩:=(show ObjOk X.prog X.w H s.heap a (.lst xs) from I.hok a _ ea)
  exact PySem.W.kia_tup PySem.W.kitx_list I.kIn ⟨_,h1,rfl⟩ ho e (fun z=>nomatch z) fin
 | @tup a xs ea=>
  cases (show u=Value.ref a from ru)
  obtain ⟨_,_,_,p'⟩:=(show ObjOk X.prog X.w H s.heap a (.tup xs) from I.hok a _ ea)
  obtain ⟨o,h1,h2,_⟩:=p'
  exact PySem.W.kia_tup PySem.W.kitx_tuple I.kIn ⟨o,h1,h2⟩ ho e (fun z=>nomatch z) fin
 | @dK a kvs ea=>
  cases (show u=Value.ref a from ru)
  obtain ⟨_,_,vs,_,p'⟩:=(show ObjOk X.prog X.w H s.heap a (.dK kvs) from I.hok a _ ea)
  obtain ⟨o,es,ep,h1,h2,_⟩:=p'
  exact PySem.W.kia_tup PySem.W.kitx_dict I.kIn ⟨o,h1,h2.1⟩ ho e (fun z=>nomatch z) fin
end
structure MthG (K:PySem.W.Frag) (C:Addr) (m qual:Str) (st:Stmt) (ps:List Str):Prop where
 ex:∃ (f:Addr) (fd:FuncData),Fun K m qual st f fd/\Meth K C m f/\Binds K fd ps []
structure MCal (P:Program) (w:World) (K:PySem.W.Frag) (mg:Str->Option Value) (base:Heap) (CX:CXT) (k:Nat) (C:Addr) (m:Str) (ps:List Str) (sp:Sp):Prop where
 ex:∃ (f:Addr) (fd:FuncData),FnOk P w K mg base CX k f fd ps sp/\Meth K C m f/\Binds K fd ps []
section
variable {P:Program} {w:World} {K:PySem.W.Frag} {mg:Str->Option Value} {base:Heap}
theorem MthG.ok {C:Addr} {m qual:Str} {st:Stmt} {N ps:List Str} {k:Nat} {sp:Sp} (G:MthG K C m qual st ps) (S:FnScope N ps (defScope st)) (len:∀ vs H Q E,sp vs H Q E->vs.length=ps.length)
  (hbody:∀ (f:Addr) (cdv:Value) (A:Around) (outer:List Env) (s:Shared) (H:Hp) (vs:List V) (Q:VK) (E:XK),Room k (A.deeper (envOfC qual (defScope st) s.heap.objs.size f cdv))->sp vs H Q E ->
   ∃ t,PSs (cxOf CX0 P w K mg base N qual (defScope st) f cdv A outer s H E).nox (defBody st) t/\t { nx:=fun _ H'=>Q .non H',rt:=Q } (start N vs) H):MCal P w K mg base CX0 (k + 1) C m ps sp:=by
 obtain ⟨f,fd,F,hm,hb⟩:=G.ex
 exact ⟨f,fd,F.ok S len fun cdv A outer s H vs Q E hr h=>hbody f cdv A outer s H vs Q E hr h,hm,hb⟩
theorem mthG_mk {C:Addr} {x qual:Str} {st:Stmt} {f:Addr} {oc:Value} {od an:Option Addr} {osl:Array (Option Value)} {kV doc pm cdv ct:Value} {ps:List Str}
  (a:PySem.W.findIn K (.ref C) x=some (some (.ref f))) (i:PySem.W.isFn K (.ref f)=true)
  (l:K.lookup f=some ⟨oc,od,.func (PySem.W.fnOf x qual (defArgs st) (defBody st) (defScope st) .none kV doc pm an cdv ct),osl⟩) (c:PySem.W.codeIn K cdv qual=true) (k:PySem.W.keepIn K (.ref f)=true)
  (hb:∀ (kV doc pm:Value) (an:Option Addr) (cdv ct:Value) (us:List Value),us.length=ps.length->bindArgs (PySem.W.fnOf x qual (defArgs st) (defBody st) (defScope st) .none kV doc pm an cdv ct) ⟨us,[]⟩=pure (ps.zip us)):MthG K C x qual st ps:=
 ⟨f,_,fun_mk l c k,⟨a,i,k⟩,(fun_mk l c k).binds hb⟩
end
section
variable {X:Cx} {k:Nat} {C:Addr} {ps:List Str} {sp:Sp} {m:Str} {apos pos:Pos} {o e:Expr} {es:List Expr} {ta:TE} {t:TA}
theorem pe_mth0 {pl:Sem Bool} (M:MCal X.prog X.w X.K X.mg X.base CX0 k C m ps sp) (c:Cls X.K C) (hr:Room k X.A) (ho:PE X o ta)
  (ht:eval (.Call (.Attribute o m apos) [] [] pos) X.env=(do
   let ov <- eval o X.env
   standAt apos.atName
   let (f,first) <- holding [ov] (getMethod ov m pl)
   callWith pos f first (backTo pos (starEach [] X.env)) (backToKw pos (keywordEach [] X.env))):=by rfl) :
  PE X (.Call (.Attribute o m apos) [] [] pos) (tMeth C m sp [] E0 ta tNil):=
 let ⟨_,_,F,hm,hb⟩:=M.ex
 pe_meth0 ho c hm F hr hb .nil pass0 ht
end
end L2
namespace L2
open PySem PySem.Spec PyProof.Rows
section
variable {X:Cx}
theorem op_neE (hu:X.A.units < cLine):OpR X (compareOp .NotEq) (rNeE true):=by
 intro pins s σ H x y v u Q I rx ry h
 obtain ⟨a,b,xs,rfl,rfl,ha,hb,hne,q⟩:=h
 cases rx;cases ry
 obtain ⟨i1,r1,p1,_⟩:=I.list (.of ha)
 obtain ⟨i2,r2,p2,_⟩:=I.list (.of hb)
 cases r2
 cases xs with
 | nil=>
  cases r1
  exact SeqAt.RcNeAt.lists (e:=fun _=>true) p1.isList p2.isList rfl hu (fun j h1=>by simp at h1) _ _ _ _ ⟨.bl _,H,I,rfl,q⟩
 | cons x xs=>
  have l1:=r1.length
  refine SeqAt.RcNeAt.lists_lengths p1.isList p2.isList ?_ hu _ _ _ _ ⟨.bl true,H,I,rfl,q⟩
  rw [List.size_toArray,List.size_toArray,<- l1]
  rfl
def rInH (neg:Bool):R2:=fun x y H Q=>∃ p xs,y=.ref p/\H p=some (.lst xs)/\flatV x=true/\xs.all flatV=true/\Q (.bl (if neg then !inV x xs else inV x xs)) H
theorem op_notIn_H:OpR X (compareOp .NotIn) (rInH true):=fun pins s σ H x y v u Q I rx ry ⟨p,xs,a,b,c,d,e⟩=>op_notIn_seq pins s σ H x y v u Q I rx ry ⟨p,xs,a,.inl (.of b),c,d,e⟩
end
structure MkCal (P:Program) (w:World) (K:PySem.W.Frag) (mg:Str->Option Value) (base:Heap) (CX:CXT) (k:Nat) (C:Addr) (x:Str) (ps:List Str) (sp:Sp):Prop where
 ex:∃ (f:Addr) (fd:FuncData),FnOk P w K mg base CX k f fd ps sp/\Mk K C f/\mg x=some (.ref C)/\Binds K fd ps []
section
variable {X:Cx} {k:Nat} {C:Addr} {ps:List Str} {sp:Sp} {x:Str} {p pos:Pos} {e:Expr} {es:List Expr} {t:TA}
theorem pe_mk (M:MkCal X.prog X.w X.K X.mg X.base CX0 k C x ps sp) (hr:Room (k + 1) X.A) (ha:PA X (e :: es) t) (hg:Gl X x:=by rfl)
  (hdb:(x == ("__debug__" : Str))=false:=by decide) (he:starEach (e :: es) X.env=(false,eval e X.env) :: starEach es X.env:=by rfl) (hpl:(backTo pos (starEach es X.env)).any (·.1)=false:=by rfl) :
  PE X (.Call (.Name x p) (e :: es) [] pos) (tMake C sp [] E0 t):=
 let ⟨_,_,F,M',hm,hb⟩:=M.ex
 pe_make M' F hr hg hm hb .nil pass0 ha hdb he hpl
end
end L2
namespace L2
open PySem PySem.Spec PyProof.Rows
section
variable {prog:Program} {w:World} {A:Around} {E:Value->Shared->Prop} {s:Shared}
theorem draw_listL {it t:Addr} {items:Array Value} (hne:t ≠ it):∀ (n i:Nat) (s:Shared) (Q:List Value->Shared->Prop),s.heap.IsListIter it t i->s.heap.IsList t items->i + n <= items.size ->
  (∀ h',h'.IsListIter it t (i + n)->Heap.SameBut it s.heap h'->Q ((items.toList.drop i).take n) { s with heap:=h' })->wpAny (model prog w) A (draw (.ref it) n) Q E s
 | 0,i,s,Q,hit,_,_,hQ=>by
  show wpAny _ _ (pure []) Q E s
  exact wpAny_pure (by simpa using hQ s.heap hit (Heap.SameBut.refl ..))
 | n + 1,i,s,Q,hit,ht,hle,hQ=>by
  have hlt:i < items.size:=by omega
  show wpAny _ _ (pyNext (.ref it) >>= _) Q E s
  refine wpAny_bind (wpAny_pyNext_list_item hit ht (x:=items[i]) (by simp [hlt]) fun h1 hit1 hs1=>?_)
  refine wpAny_bind (wpAny_holding (draw_listL hne n (i + 1) _ _ hit1 (ht.extBut hs1.extBut hne) (by omega) fun h2 hit2 hs2=>wpAny_pure ?_))
  have hd:items.toList.drop i=items[i] :: items.toList.drop (i + 1):=by simp [List.drop_eq_getElem_cons,hlt]
  have:=hQ h2 (by rw [show i + (n + 1)=i + 1 + n by omega];exact hit2) (hs1.trans hs2)
  rw [hd,List.take_succ_cons] at this
  exact this
theorem unpackItems_listL {t:Addr} {items:Array Value} {Q:List Value->Shared->Prop} (hh:A.handled=none) (ht:s.heap.IsList t items)
  (hQ:∀ h',Heap.ExtBut s.heap.objs.size s.heap h'->Q items.toList { s with heap:=h' }):wpAny (model prog w) A (unpackItems (.ref t) items.size none) Q E s:=by
 have hlt:t ≠ s.heap.objs.size:=by obtain ⟨o,ho,_⟩:=ht;exact Nat.ne_of_lt (Heap.lt_size ho)
 unfold unpackItems
 refine wpAny_bind ?_
 ·unfold notIterableAtAll
  refine wpAny_bind (wpAny_specialOf ht.typeIs slot_list_iter.lookup ?_)
  refine wpAny_pure ?_
  simp only [Bool.false_eq_true,if_false]
  refine wpAny_bind (wpAny_holding (wpAny_pyIter_list ht ?_))
  refine wpAny_bind (wpAny_holding (draw_listL hlt items.size 0 _ _ ⟨_,Heap.get?_push_size _ rfl,rfl,rfl⟩ (ht.push _) (by omega) fun h1 hit1 hs1=>?_))
  have hall:List.take items.size (List.drop 0 items.toList)=items.toList:=by
   rw [List.drop_zero];exact List.take_of_length_le (by simp)
  rw [hall]
  rw [if_neg (by simp)]
  have ht1:h1.IsList t items:=(ht.push _).extBut hs1.extBut hlt
  refine wpAny_bind (wpAny_holding (wpAny_pyNext_list_end hh hit1 ht1 (by simp) fun h2 he2=>?_))
  simp only [Option.isSome_none,Bool.false_eq_true,if_false]
  refine wpAny_pure (hQ h2 fun b o hb e=>he2 b o hb (hs1.extBut b o hb (Heap.get?_push_of_some _ e)))
theorem unpack_listL {t:Addr} {items:Array Value} {targets:List (Bool × (Value->Sem Unit))} {Q:Unit->Shared->Prop} (hh:A.handled=none) (ht:s.heap.IsList t items)
  (hn:targets.length=items.size) (hstar:targets.findIdx? (·.1)=none)
  (h:∀ h',Heap.ExtBut s.heap.objs.size s.heap h'->wpAny (model prog w) A (assignInOrder (targets.map (·.2)) items.toList) Q E { s with heap:=h' }) :
  wpAny (model prog w) A (unpack (.ref t) targets) Q E s:=by
 unfold unpack
 rw [hn,hstar]
 exact wpAny_bind (wpAny_holding (unpackItems_listL hh ht h))
end
section
variable {X:Cx} {pos:Pos}
def gLst (K:PySem.W.Frag) (n:Nat) (t:TGs):TG:=fun v σ H Q=>∃ a xs,v=.ref a/\SqL K H a xs/\xs.length=n/\t xs σ H Q
theorem pg_lst {es:List Expr} {k:Nat} {t:TGs} {n:Nat} (hc:X.calm=true) (h:PGs X es t)
  (hn:(assignEach es X.env).length=n:=by rfl) (hst:(assignEach es X.env).findIdx? (·.1)=none:=by rfl):PG X (.Tuple es k pos) (gLst X.K n t):=by
 intro pins s σ H v u Q I r hw
 obtain ⟨a,xs,e1,hq,hl,hw⟩:=hw
 subst e1
 cases r
 obtain ⟨its,rv,ht,hz⟩:=I.list hq
 rw [assign_Tuple]
 refine wpAny_bind (wpAny_standAt (unpack_listL (I.ok.hd hc) ht.isList (by simp [hn,<- hl,rv.length]) hst fun h' hx=>?_))
 have I1:Inv X pins σ H { s with heap:=h' }:=I.kept (t':=s.toks) fun b o e=>hx b o (Nat.ne_of_lt (Heap.lt_size e)) e
 exact h pins _ σ H xs _ Q I1 (by simpa using rv) hw
def rNeT:R2:=fun x y H Q=>∃ a b xs ys,x=.ref a/\y=.ref b/\H a=some (.tup xs)/\H b=some (.tup ys)/\xs.all flatV=true/\ys.all flatV=true/\Q (.bl (!eqT xs ys)) H
theorem eqAt_items {pins:List (Addr × Obj)} {σ:St} {H:Hp} {s:Shared} {A:Around} {xs ys:List V} {i1 i2:List Value} (r1:Vals xs i1) (r2:Vals ys i2) (f1:xs.all flatV=true) (f2:ys.all flatV=true) (j:Nat) (g1:j < i1.toArray.size) (g2:j < i2.toArray.size) :
  SeqAt.EqAt A s i1.toArray[j] i2.toArray[j] (eqV (xs.getD j .non) (ys.getD j .non)):=by
 have l1:=r1.length
 have l2:=r2.length
 have g1':j < i1.length:=by simpa using g1
 have g2':j < i2.length:=by simpa using g2
 obtain ⟨u,eu,ru⟩:=r1.get (i:=j) (List.getElem?_eq_getElem (by omega:j < xs.length))
 obtain ⟨v,ev,rv⟩:=r2.get (i:=j) (List.getElem?_eq_getElem (by omega:j < ys.length))
 have eu':i1.toArray[j]=u:=by
  rw [List.getElem?_eq_getElem g1'] at eu
  simpa using Option.some.inj eu
 have ev':i2.toArray[j]=v:=by
  rw [List.getElem?_eq_getElem g2'] at ev
  simpa using Option.some.inj ev
 rw [eu',ev']
 have q1:xs.getD j .non=xs[j]'(by omega):=by rw [List.getD_eq_getElem?_getD,List.getElem?_eq_getElem (by omega)];rfl
 have q2:ys.getD j .non=ys[j]'(by omega):=by rw [List.getD_eq_getElem?_getD,List.getElem?_eq_getElem (by omega)];rfl
 show SeqAt.EqAt _ _ _ _ (eqV (xs.getD j .non) (ys.getD j .non))
 rw [q1,q2]
 exact eqAt_V ru rv (List.all_eq_true.mp f1 _ (List.getElem_mem _)) (List.all_eq_true.mp f2 _ (List.getElem_mem _))
theorem op_neT (hu:X.A.units < cLine):OpR X (compareOp .NotEq) rNeT:=by
 intro pins s σ H x y v u Q I rx ry h
 obtain ⟨a,b,xs,ys,rfl,rfl,ha,hb,f1,f2,q⟩:=h
 cases rx;cases ry
 obtain ⟨i1,r1,t1,_⟩:=I.tuple (.of ha)
 obtain ⟨i2,r2,t2,_⟩:=I.tuple (.of hb)
 have l1:=r1.length
 have l2:=r2.length
 have key:=SeqAt.RcNeAt.tuples (A:=X.A) (s:=s) (l:=a) (b:=b) (e:=fun j=>eqV (xs.getD j .non) (ys.getD j .non)) (show s.heap.IsTuple a i1.toArray from t1) (show s.heap.IsTuple b i2.toArray from t2) hu
  (fun j g1 g2=>eqAt_items (pins:=pins) (σ:=σ) (H:=H) r1 r2 f1 f2 j g1 g2)
 have ee:(!eqT xs ys)=(!((List.range (min i1.toArray.size i2.toArray.size)).all (fun j=>eqV (xs.getD j .non) (ys.getD j .non)) && i1.toArray.size == i2.toArray.size)):=by
  unfold eqT
  rw [zip_all,List.size_toArray,List.size_toArray,<- l1,<- l2,Bool.and_comm]
 rw [ee] at q
 exact key _ _ _ _ ⟨.bl _,H,I,rfl,q⟩
end
theorem lc_pairsT {K:PySem.W.Frag} {a acc:Addr} {zs:List Str} {xs:List Str} {ix:List Nat} {tt:TT} {te:TE} {σ:St} {H1:Hp} {Q:VK} {rest:List (Option V)} (mk:Str->List V) (b:Str->Bool) (hn:zs.length <= 2000) (ha:H1 acc=none) (hS:H1 a=some (.lst (zs.map V.str)))
  (hσ:stC xs ix σ=none :: rest)
  (htt:∀ (z:Str) (H:Hp) (R:Bool->Hp->Prop),z ∈ zs->Keep [acc] H1 H->(∀ H',Keep [] H H'->R (b z) H')->tt (some (.str z) :: rest) H R)
  (hte:∀ (z:Str) (H:Hp) (R:VK),(∀ t,H t=none->R (.ref t) (upd H t (.tup (mk z))))->te (some (.str z) :: rest) H R)
  (q:∀ H',Rows H' acc ((zs.filter b).map mk)->Keep [] H1 H'->Q (.ref acc) H'):LCW (Itl K a) xs ix (gName 0) tt te σ H1 acc Q:=by
 have aa:a ≠ acc:=ne_of_none hS ha
 refine lc_list (K:=K) (a:=a) (its:=zs.map V.str) (by rw [List.length_map,sizeLine_eq];omega)
  (fun i ys τ H2=>∃ (ps:List Addr) (k:Option V),τ=k :: rest/\ys=ps.map V.ref/\Paired (fun q r=>H2 q=some (.tup r)) ps (((zs.take i).filter b).map mk)/\Keep [acc] H1 H2/\H2 acc=some (.lst ys)) ?_ ?_ ?_ ?_
 ·exact ⟨[],none,hσ,rfl,.nil,Keep.at (by simp),upd_same⟩
 ·rintro i ys τ H2 ⟨ps,k,rfl,rfl,hp,kp,h2⟩
  refine ⟨h2,?_,.of (kp _ _ (by simp [aa]) hS)⟩
  have:=paired_len hp
  rw [List.length_map] at this
  have h3:=List.length_filter_le b (zs.take i)
  rw [List.length_map,this]
  rw [List.length_take] at h3
  omega
 ·rintro i ys τ H2 x hx ⟨ps,k,rfl,rfl,hp,kp,h2⟩
  rw [List.getElem?_map] at hx
  cases ez:zs[i]? with
  | none=>rw [ez] at hx;cases hx
  | some z=>
  rw [ez] at hx
  have ey:V.str z=x:=Option.some.inj hx
  subst ey
  have eT:zs.take (i + 1)=zs.take i ++ [z]:=by rw [List.take_succ,ez];rfl
  refine htt z H2 _ (List.mem_of_getElem? ez) kp fun H3 k3=>?_
  have h3:=k3 _ _ (by simp) h2
  have hp3:Paired (fun q r=>H3 q=some (.tup r)) ps (((zs.take i).filter b).map mk):=L2.Paired.mapP hp fun q r e=>k3 _ _ (by simp) e
  have kp3:Keep [acc] H1 H3:=kp.trans (k3.mono (by simp))
  cases hb:b z with
  | false=>
   rw [if_neg Bool.false_ne_true]
   refine ⟨ps,_,rfl,rfl,?_,kp3,h3⟩
   rw [eT,List.filter_append,List.filter_cons,hb]
   simpa using hp3
  | true=>
   rw [if_pos rfl]
   refine hte z H3 _ fun t ht=>?_
   have nt:acc ≠ t:=ne_of_none h3 ht
   refine ⟨by rw [upd_ne nt];exact h3,ps ++ [t],_,rfl,by simp,?_,(kp3.trans (Keep.new ht)).trans (Keep.at (by simp)),upd_same⟩
   rw [eT,List.filter_append,List.filter_cons,hb]
   simp only [if_true,List.filter_nil,List.map_append,List.map_cons,List.map_nil]
   have kk:Keep [acc] H3 (upd (upd H3 t (.tup (mk z))) acc (.lst (ps.map V.ref ++ [.ref t]))):=(Keep.new ht).trans (Keep.at (by simp))
   refine paired_snoc ?_ (by rw [upd_ne (Ne.symm nt),upd_same])
   exact L2.Paired.mapP hp3 fun q r e=>kk q _ (by
    have nq:q ≠ acc:=ne_of e h3 (by intro z;cases z)
    simp [nq]) e
 ·rintro ys τ H2 ⟨ps,k,rfl,rfl,hp,kp,h2⟩
  rw [List.length_map,List.take_length] at hp
  exact q H2 ⟨ps,h2,hp⟩ (kp.drop ha)
theorem lc_rows {K:PySem.W.Frag} {α:Type} {a acc:Addr} {xs:List Str} {ix:List Nat} {g:TG} {tt:TT} {te:TE} {σ:St} {H1:Hp} {Q:VK} {ds:List α} (f mk:α->List V) (b:α->Bool) (own:α->Addr->List (Option V)) (rest:List (Option V)) (hn:ds.length <= 2000) (ha:H1 acc=none) (hS:Rows H1 a (ds.map f))
  (hσ:∃ vs:List (Option V),stC xs ix σ=vs ++ rest/\vs.length=xs.length) (hown:∀ d q,(own d q).length=xs.length)
  (hg:∀ (d:α) (q:Addr) (vs:List (Option V)) (H:Hp) (R:St->Hp->Prop),d ∈ ds->vs.length=xs.length->H q=some (.tup (f d))->R (own d q ++ rest) H->g (.ref q) (vs ++ rest) H R)
  (htt:∀ (d:α) (q:Addr) (H:Hp) (R:Bool->Hp->Prop),d ∈ ds->Keep [acc] H1 H->H q=some (.tup (f d))->(∀ H',Keep [] H H'->R (b d) H')->tt (own d q ++ rest) H R)
  (hte:∀ (d:α) (q:Addr) (H:Hp) (R:VK),d ∈ ds->H q=some (.tup (f d))->(∀ t H',Keep [] H H'->H' t=some (.tup (mk d))->R (.ref t) H')->te (own d q ++ rest) H R)
  (q:∀ H',Rows H' acc ((ds.filter b).map mk)->Keep [] H1 H'->Q (.ref acc) H'):LCW (Itl K a) xs ix g tt te σ H1 acc Q:=by
 obtain ⟨ps0,e0,r0⟩:=hS
 have aa:a ≠ acc:=ne_of_none e0 ha
 have l0:=paired_len r0
 rw [List.length_map] at l0
 obtain ⟨vs0,hσ,hv0⟩:=hσ
 refine lc_list (K:=K) (a:=a) (its:=ps0.map V.ref) (by rw [List.length_map,sizeLine_eq];omega)
  (fun i ys τ H2=>∃ (ps:List Addr) (vs:List (Option V)),τ=vs ++ rest/\vs.length=xs.length/\ys=ps.map V.ref/\Paired (fun q r=>H2 q=some (.tup r)) ps (((ds.take i).filter b).map mk)/\Keep [acc] H1 H2/\H2 acc=some (.lst ys)) ?_ ?_ ?_ ?_
 ·exact ⟨[],vs0,hσ,hv0,rfl,.nil,Keep.at (by simp),upd_same⟩
 ·rintro i ys τ H2 ⟨ps,vs,rfl,hv,rfl,hp,kp,h2⟩
  refine ⟨h2,?_,.of (kp _ _ (by simp [aa]) e0)⟩
  have:=paired_len hp
  rw [List.length_map] at this
  have h3:=List.length_filter_le b (ds.take i)
  rw [List.length_map,this]
  rw [List.length_take] at h3
  omega
 ·rintro i ys τ H2 x hx ⟨ps,vs,rfl,hv,rfl,hp,kp,h2⟩
  rw [List.getElem?_map] at hx
  cases ez:ps0[i]? with
  | none=>rw [ez] at hx;cases hx
  | some qa=>
  rw [ez] at hx
  have ey:V.ref qa=x:=Option.some.inj hx
  subst ey
  obtain ⟨r,er,hr⟩:=paired_get r0 i qa ez
  rw [List.getElem?_map] at er
  cases ed:ds[i]? with
  | none=>rw [ed] at er;cases er
  | some d=>
  rw [ed] at er
  have er':f d=r:=Option.some.inj er
  subst er'
  have nqa:qa ≠ acc:=ne_of_none hr ha
  have hq2:=kp _ _ (by simp [nqa]) hr
  have hm:=List.mem_of_getElem? ed
  have eT:ds.take (i + 1)=ds.take i ++ [d]:=by rw [List.take_succ,ed];rfl
  refine hg d qa vs H2 _ hm hv hq2 (htt d qa H2 _ hm kp hq2 fun H4 k4=>?_)
  cases hb:b d with
  | false=>
   rw [if_neg Bool.false_ne_true]
   refine ⟨ps,own d qa,rfl,hown d qa,rfl,?_,kp.trans (k4.mono (by simp)),k4 _ _ (by simp) h2⟩
   rw [eT,List.filter_append,List.filter_cons,hb]
   simpa using L2.Paired.mapP hp fun q r e=>k4 _ _ (by simp) e
  | true=>
   rw [if_pos rfl]
   refine hte d qa H4 _ hm (k4 _ _ (by simp) hq2) fun t H5 k45 h5t=>?_
   have k5:=k4.trans k45
   have h5:=k5 _ _ (by simp) h2
   have nt:acc ≠ t:=by intro z;rw [<- z,h5] at h5t;cases h5t
   refine ⟨h5,ps ++ [t],own d qa,rfl,hown d qa,by simp,?_,(kp.trans (k5.mono (by simp))).trans (Keep.at (by simp)),upd_same⟩
   rw [eT,List.filter_append,List.filter_cons,hb]
   simp only [if_true,List.filter_nil,List.map_append,List.map_cons,List.map_nil]
   refine paired_snoc ?_ (by rw [upd_ne (Ne.symm nt)];exact h5t)
   exact L2.Paired.mapP hp fun q r e=>by
    have e5:=k5 _ _ (by simp) e
    have nq:q ≠ acc:=ne_of e5 h5 (by intro z;cases z)
    rw [upd_ne nq];exact e5
 ·rintro ys τ H2 ⟨ps,vs,rfl,hv,rfl,hp,kp,h2⟩
  rw [List.length_map,l0,List.take_length] at hp
  exact q H2 ⟨ps,h2,hp⟩ (kp.drop ha)
theorem pe_lc2 {X:Cx} {N:List Str} {sc:Scope} {x y:Str} {ix:List Nat} {scope:Scope} {elt iter:Expr} {ifs:List Expr} {px py tp pos:Pos} {tk:Nat} {wi:TI} {tt:TT} {te:TE}
  (hS:CompS N sc [x,y] ix scope) (hi:PI X (.Tuple [.Name x px,.Name y py] tk tp) iter wi)
  (ht:∀ C fp s H,PTs (cxC X [x,y] ix scope C fp s H) ifs tt) (he:∀ C fp s H,PE (cxC X [x,y] ix scope C fp s H) elt te)
  (hN:X.N=N:=by rfl) (hsc:X.env.scope=sc:=by rfl) (hc:X.calm=true:=by rfl)
  (hs:∀ x,foldedSetIterable iter X.env x=pure x:=by intro _;rfl) :
  PE X (.ListComp elt [⟨.Tuple [.Name x px,.Name y py] tk tp,iter,ifs,0⟩] scope pos) (tLC [x,y] ix wi (gTup X.K 2 (gCons (gName 0) (gCons (gName 1) gNil))) tt te):=by
 have S:=hS.at (X:=X) hN hsc
 have hl:∀ C fp s H,(cxC X [x,y] ix scope C fp s H).env.scope.names.lookup x=some .local:=fun _ _ _ _=>lookup_relabel_local (S.own x (by simp))
 have hl2:∀ C fp s H,(cxC X [x,y] ix scope C fp s H).env.scope.names.lookup y=some .local:=fun _ _ _ _=>lookup_relabel_local (S.own y (by simp))
 exact pe_lc S hc hi (fun C fp s H=>pg_tup (X:=cxC X [x,y] ix scope C fp s H) hc (pgs_cons (pg_name S.nd rfl (Or.inl (hl C fp s H)) (.inr (hl C fp s H))) (pgs_cons (pg_name S.nd rfl (Or.inl (hl2 C fp s H)) (.inr (hl2 C fp s H))) pgs_nil))) ht he hs
theorem seq_by {a b:TS} {D:Ends} {σ:St} {H:Hp} (M:St->Hp->Prop) (h2:∀ σ' H',M σ' H'->b D σ' H') (h1:∀ nx':St->Hp->Prop,(∀ σ' H',M σ' H'->nx' σ' H')->a { D with nx:=nx' } σ H):tSeq a b D σ H:=h1 (b D) h2
theorem nm_skip {i:Nat} {v:V} {σ:St} {H:Hp} {Q:St->Hp->Prop} (h:Q (σ.set i (some v)) H):gName i v σ H Q:=h
theorem nx_seq {a b:TS} {D:Ends} {rt:VK} {bk ct:St->Hp->Prop} {σ:St} {H:Hp} (h:tSeq a b D σ H):({ nx:=tSeq a b D,rt:=rt,bk:=bk,ct:=ct }:Ends).nx σ H:=h
theorem Keep.under {S:List Addr} {H0 H1 H2:Hp} (k0:Keep [] H0 H1) (k:Keep S H1 H2) (hS:∀ b ∈ S,H0 b=Option.none):Keep [] H0 H2:=fun b o _ h=>k b o (fun hb=>by rw [hS b hb] at h;cases h) (k0 b o (by simp) h)
theorem paired_app {α β:Type} {F:α->β->Prop}:∀ {a c:List α} {b d:List β},Paired F a b->Paired F c d->Paired F (a ++ c) (b ++ d)
 | _,_,_,_,.nil,h=>h
 | _,_,_,_,.cons r t,h=>.cons r (paired_app t h)
theorem cut_ints (ns:List Int) (lo hi:Option Int):∃ ms:List Int,cutV (ns.map V.int) lo hi=ms.map V.int/\ms.length <= ns.length:=by
 unfold cutV
 refine ⟨(ns.drop (HT.sIx (ns.map V.int).length 0 lo)).take (HT.sIx (ns.map V.int).length (ns.map V.int).length hi - HT.sIx (ns.map V.int).length 0 lo),by rw [List.map_take,List.map_drop],?_⟩
 rw [List.length_take,List.length_drop]
 omega
theorem find_first {α:Type} [DecidableEq α]:∀ (l:List α) (x:α),x ∈ l->∃ j:Nat,l[j]?=some x/\∀ m:Nat,m < j->l[m]? ≠ some x
 | [],x,h=>by cases h
 | y :: l,x,h=>by
  by_cases e:y=x
  ·exact ⟨0,by rw [e];rfl,fun m hm=>absurd hm (Nat.not_lt_zero m)⟩
  ·obtain ⟨j,h1,h2⟩:=find_first l x ((List.mem_cons.mp h).elim (fun z=>absurd z.symm e) id)
   refine ⟨j + 1,by simpa using h1,fun m hm=>?_⟩
   cases m with
   | zero=>intro z;exact e (Option.some.inj z)
   | succ m=>exact fun z=>h2 m (by omega) (by simpa using z)
end L2
namespace L2
open PySem PySem.Spec PyProof.Rows
def ClsIs (ob:Obj) (C:Addr):Prop:=ob.cls=.ref C/\ob.dict=none
theorem dict_mapF (f:Array Value->Array Value) (o:Obj):(Obj.mapFields f o).dict=o.dict:=by
 unfold Obj.mapFields
 split <;> rfl
def Rec (h B:Heap) (e C:Addr) (fl:Value):Prop:=
 ∃ (ob:Obj) (cells:Array Value) (tb:Addr) (ot:Obj) (tcs:Array Value),h.get? e=some ob/\ClsIs ob C/\ob.data=.fields cells/\cells[2]?=some .none/\cells[1]?=some (.ref tb) /\
  B.get? tb=none/\tb ≠ e/\h.get? tb=some ot/\ot.data=.fields tcs/\tcs[3]?=some fl
def Fly (B:Heap) (l:List Env) (e C:Addr) (fl:Value) (h:Heap):Prop:=B.StaysIn h/\B.get? e=none/\h.FunFrames B l/\Rec h B e C fl
section
variable {M:Model} {A:Around} {E:Value->Shared->Prop} {s:Shared} {B:Heap} {env:Env} {outer:List Env} {L e C:Addr} {Q:Unit->Shared->Prop}
theorem noteTail {head:Value} {hadNext:Bool} {ob:Obj} {cells:Array Value} (fr:A.frames=some (env :: outer)) (ff:s.heap.FunFrames B (env :: outer)) (ef:env.frame=some L)
  (ge:s.heap.get? e=some ob) (gc:ClsIs ob C) (st:B.StaysIn s.heap) (ne:B.get? e=none) (gd:ob.data=.fields cells) (g2:cells[2]?=some .none)
  (k:∀ h',Fly B (env :: outer) e C (rawInt L) h'->s.heap.UpToSlots h'->Q () { s with heap:=h' }) :
  wpAny M A (do let a <- frameOf env;let pl <- entryPlaceOf L hadNext;let b <- EntryCells.newEntry head a .none (rawInt L) .none pl;setField (.ref e) 1 b) Q E s:=by
 have z2:2 < cells.size:=(Array.getElem?_eq_some_iff.mp g2).1
 have z1:1 < cells.size:=by omega
 have nfe:e ∉ (env :: outer).filterMap (·.frame):=fun hm=>by
  obtain ⟨_,o,ho,hnf⟩:=ff.mem hm
  rw [ge] at ho;cases ho;exact hnf cells gd
 refine wpAny_bind (wpAny_frameOf_fun fr ff ef fun g hg=>?_)
 refine wpAny_bind (wpAny_entryPlaceOf fun pl hpl=>?_)
 unfold EntryCells.newEntry newFields
 refine wpAny_bind (wpAny_newObj_type ?_ (hpl.sizeOk5 _ _ _ _ _))
 have e1:g.get? e=some ob:=(hg.2.1 e nfe).trans ge
 have st1:B.StaysIn g:=fun b o hb=>(hg.2.1 b fun hm=>by rw [(ff.mem hm).1] at hb;cases hb).trans (st b o hb)
 generalize htb:({ cls:=.type "traceback",dict:=none,data:=.fields ([head,.ref L,.none,rawInt L,.none] ++ (if pl.isEmpty then List.replicate 6 Value.none else pl)).toArray }:Obj)=tbo
 have tbd:∃ tcs:Array Value,tbo.data=.fields tcs/\tcs[3]?=some (rawInt L):=⟨_,by rw [<- htb],by first | (simp;done) | (rcases hpl with rfl | ⟨_,_,_,_,_,_,_,rfl⟩ <;> simp)⟩
 obtain ⟨tcs,td,t3⟩:=tbd
 have e2:=Heap.get?_push_of_some (h:=g) tbo e1
 have nte:g.objs.size ≠ e:=Nat.ne_of_gt (Heap.lt_size e1)
 have d3:=Obj.data_mapFields gd (·.setIfInBounds 1 (Value.ref g.objs.size))
 have e3:=Heap.get?_update_self (Obj.mapFields (·.setIfInBounds 1 (Value.ref g.objs.size))) e2 (Obj.isFreed_of_fields d3)
 have oth:∀ b o,b ≠ e->g.get? b=some o->((g.push tbo).update e (Obj.mapFields (·.setIfInBounds 1 (Value.ref g.objs.size)))).get? b=some o:=fun b o nb hb=>by
  rw [Heap.get?_update_other _ _ (Ne.symm nb)];exact Heap.get?_push_of_some _ hb
 have nrec:∀ b o,s.heap.get? b=some o->(∀ vs,o.data ≠ .fields vs)->b ≠ e:=fun b o hb hnf z=>by
  rw [z,ge] at hb;cases hb;exact hnf cells gd
 have up:s.heap.UpToSlots ((g.push tbo).update e (Obj.mapFields (·.setIfInBounds 1 (Value.ref g.objs.size)))):=fun b o hb hnf=>by
  obtain ⟨sl,q⟩:=hg.2.2 b o hb
  exact ⟨sl,oth b _ (nrec b o hb hnf) q⟩
 have tbg:((g.push tbo).update e (Obj.mapFields (·.setIfInBounds 1 (Value.ref g.objs.size)))).get? g.objs.size=some tbo:=by
  rw [Heap.get?_update_other _ _ (Ne.symm nte)]
  exact Heap.get?_push_size g (Obj.isFreed_of_fields td)
 refine wpAny_setField e2 gd z1 (k _ ⟨fun b o hb=>oth b o (fun z=>by rw [z,ne] at hb;cases hb) (st1 b o hb),ne,ff.of_keeps fun b o hb hnf=>?_,?_⟩ up)
 ·obtain ⟨sl,q⟩:=up b o hb hnf
  exact ⟨_,q,rfl⟩
 ·exact ⟨_,_,g.objs.size,tbo,tcs,e3,⟨(Obj.cls_mapFields _ _).trans gc.1,(dict_mapF _ _).trans gc.2⟩,d3,by rw [Array.getElem?_setIfInBounds_ne (by decide)];exact g2,by simp [z1],st1.fresh,nte,tbg,td,t3⟩
theorem note_new {ob:Obj} {cells:Array Value} (fr:A.frames=some (env :: outer)) (ff:s.heap.FunFrames B (env :: outer)) (ef:env.frame=some L)
  (ge:s.heap.get? e=some ob) (gc:ClsIs ob C) (st:B.StaysIn s.heap) (ne:B.get? e=none) (gd:ob.data=.fields cells) (g1:cells[1]?=some .none) (g2:cells[2]?=some .none)
  (k:∀ h',Fly B (env :: outer) e C (rawInt L) h'->s.heap.UpToSlots h'->Q () { s with heap:=h' }):wpAny M A (noteFrame (.ref e) env) Q E s:=by
 unfold noteFrame
 simp only [ef]
 refine wpAny_bind (wpAny_field ge gd g1 ?_)
 rw [if_neg (by decide)]
 exact noteTail fr ff ef ge gc st ne gd g2 k
theorem note_on (fr:A.frames=some (env :: outer)) (ef:env.frame=some L) (F:Fly B (env :: outer) e C .none s.heap)
  (k:∀ h',Fly B (env :: outer) e C (rawInt L) h'->s.heap.UpToSlots h'->Q () { s with heap:=h' }):wpAny M A (noteFrame (.ref e) env) Q E s:=by
 obtain ⟨st,ne,ff,ob,cells,tb,ot,tcs,ge,gc,gd,g2,g1,nb,nte,gt,td,t3⟩:=F
 unfold noteFrame
 simp only [ef]
 refine wpAny_bind (wpAny_field ge gd g1 ?_)
 rw [if_pos (by simp:(Value.ref tb != Value.none)=true)]
 refine wpAny_bind (wpAny_field gt td t3 ?_)
 rw [if_neg (by simp [rawInt]:¬ ((Value.none == rawInt L)=true))]
 refine wpAny_bind (wpAny_setField gt td (Array.getElem?_eq_some_iff.mp t3).1 ?_)
 have oth:∀ b,b ≠ tb->(s.heap.update tb (Obj.mapFields (·.setIfInBounds 3 Value.none))).get? b=s.heap.get? b:=fun b hb=>Heap.get?_update_other _ _ (Ne.symm hb)
 have nrec:∀ b o,s.heap.get? b=some o->(∀ vs,o.data ≠ .fields vs)->b ≠ tb:=fun b o hb hnf z=>by
  rw [z,gt] at hb;cases hb;exact hnf tcs td
 exact noteTail fr (ff.of_keeps fun b o hb hnf=>⟨o,(oth b (nrec b o hb hnf)).trans hb,rfl⟩) ef ((oth e (Ne.symm nte)).trans ge) gc (fun b o hb=>(oth b fun z=>by rw [z,nb] at hb;cases hb).trans (st b o hb)) ne gd g2
  fun h' F' up=>k h' F' fun b o hb hnf=>up b o ((oth b (nrec b o hb hnf)).trans hb) hnf
theorem land_on {l:List Env} {fl:Value} (F:Fly B l e C fl s.heap) (k:∀ h',Fly B l e C .none h'->s.heap.UpToSlots h'->Q () { s with heap:=h' }):wpAny M A (setFlight (.ref e) none) Q E s:=by
 obtain ⟨st,ne,ff,ob,cells,tb,ot,tcs,ge,gc,gd,g2,g1,nb,nte,gt,td,t3⟩:=F
 have z3:3 < tcs.size:=(Array.getElem?_eq_some_iff.mp t3).1
 have oth:∀ b,b ≠ tb->(s.heap.update tb (Obj.mapFields (·.setIfInBounds 3 ((none:Option Addr).elim Value.none fun f=>rawInt f)))).get? b=s.heap.get? b:=fun b hb=>Heap.get?_update_other _ _ (Ne.symm hb)
 have nrec:∀ b o,s.heap.get? b=some o->(∀ vs,o.data ≠ .fields vs)->b ≠ tb:=fun b o hb hnf z=>by
  rw [z,gt] at hb;cases hb;exact hnf tcs td
 unfold setFlight
 refine wpAny_bind (wpAny_field ge gd g1 ?_)
 rw [if_pos (by simp:(Value.ref tb != Value.none)=true)]
 refine wpAny_setField gt td z3 (k _ ⟨fun b o hb=>(oth b fun z=>by rw [z,nb] at hb;cases hb).trans (st b o hb),ne,ff.of_keeps fun b o hb hnf=>⟨o,(oth b (nrec b o hb hnf)).trans hb,rfl⟩,?_⟩ fun b o hb hnf=>⟨o.slots,(oth b (nrec b o hb hnf)).trans hb⟩)
 exact ⟨ob,cells,tb,_,_,(oth e (Ne.symm nte)).trans ge,gc,gd,g2,g1,nb,nte,Heap.get?_update_self _ gt (Obj.isFreed_of_fields (Obj.data_mapFields td _)),Obj.data_mapFields td _,by simp [z3]⟩
theorem Fly.down {l:List Env} {fl:Value} {h:Heap} (F:Fly B (env :: l) e C fl h):Fly B l e C fl h:=⟨F.1,F.2.1,F.2.2.1.2.2,F.2.2.2⟩
theorem leave_on (fr:A.frames=some (env :: outer)) (ef:env.frame=some L) (F:Fly B (env :: outer) e C .none s.heap)
  (k:∀ h',Fly B outer e C .none h'->s.heap.UpToSlots h'->Q () { s with heap:=h' }):wpAny M A (leaving env (.ref e)) Q E s:=by
 unfold leaving
 exact wpAny_bind (note_on fr ef F fun g F1 u1=>land_on F1 fun h' F2 u2=>k h' F2.down (u1.trans u2))
theorem leave_new {h:Heap} {args:List Value} (fr:A.frames=some (env :: outer)) (ff:h.FunFrames B (env :: outer)) (ef:env.frame=some L) (st:B.StaysIn h) (mk:Heap.MadeExcOf h s.heap e (.ref C) args)
  (k:∀ h',Fly B outer e C .none h'->s.heap.UpToSlots h'->Q () { s with heap:=h' }):wpAny M A (leaving env (.ref e)) Q E s:=by
 obtain ⟨t,ge,_,_⟩:=mk.there
 have ne:B.get? e=none:=by
  cases q:B.get? e with
  | none=>rfl
  | some o=>have:=st e o q;rw [mk.new] at this;cases this
 unfold leaving
 exact wpAny_bind (note_new fr (ff.of_keeps fun b o hb _=>⟨o,mk.keeps b o hb,rfl⟩) ef ge ⟨rfl,rfl⟩ (fun b o hb=>mk.keeps b o (st b o hb)) ne rfl rfl rfl fun g F1 u1=>land_on F1 fun h' F2 u2=>k h' F2.down (u1.trans u2))
end
end L2
namespace L2
open PySem PySem.Spec PyProof.Rows
section
variable {P:Program} {w:World} {H H':Hp} {h h' B:Heap} {a:Addr} {o:HO}
theorem ObjOk.there (x:ObjOk P w H h a o):∃ u,h.get? a=some u:=by
 cases o with
 | lst xs=>obtain ⟨_,_,_,_,q⟩:=x;exact ⟨_,q⟩
 | tup xs=>obtain ⟨_,_,_,⟨u,q,_⟩⟩:=x;exact ⟨u,q⟩
 | dK kvs=>obtain ⟨_,_,_,_,u,_,_,q,_⟩:=x;exact ⟨u,q⟩
 | dT kvs=>obtain ⟨_,_,_,_,u,_,_,q,_⟩:=x;exact ⟨u,q⟩
 | set S n=>obtain ⟨u,_,_,_,q,_⟩:=x;exact ⟨u,q⟩
 | ins C dx fs=>obtain ⟨_,_,_,q,_⟩:=x;exact ⟨_,q⟩
 | own y=>exact x
 | xd fs=>obtain ⟨_,⟨u,_,_,q,_⟩,_⟩:=x;exact ⟨u,q⟩
 | rng lo hi=>obtain ⟨_,_,_,q⟩:=x;exact ⟨_,q⟩
 | frz ob u=>obtain ⟨q,_⟩:=x;exact ⟨_,q⟩
 | tbl ps=>exact ⟨_,(show h.get? a=some _ from x)⟩
 | met f y=>exact ⟨_,(show h.get? a=some _ from x)⟩
 | ext φ=>obtain ⟨_,q,_⟩:=x;exact q
theorem HOk.air (ok:HOk P w H h) (st:B.StaysIn h) (st':B.StaysIn h') (cov:∀ c,H c ≠ none->∃ u,B.get? c=some u):HOk P w H h':=fun b o e=>
 (ok b o e).stay (fun c u hc q=>by
  have hn:H c ≠ none:=by
   rcases hc with z | z
   ·rw [z,e];intro y;cases y
   ·rw [z];intro y;cases y
  obtain ⟨u',qB⟩:=cov c hn
  have:=st c u' qB
  rw [q] at this;cases this
  exact st' c u qB) (fun _ z=>z) fun _ _ z=>z
end
def CXE (P:Program) (w:World):CXT:=fun outer H s E e s'=>∃ (a C:Addr) (B:Heap) (H':Hp),e=.ref a/\s'.os=s.os/\AllBare s'.gens/\Un (frs outer) [] H H' s.heap s'.heap/\HOk P w H' s'.heap/\Fly B outer a C .none s'.heap /\
 (∀ c,H' c ≠ none->∃ u,B.get? c=some u)/\(∀ b o,s.heap.get? b=some o->H b=none->b ∉ frs outer->B.get? b=some o)/\(∀ b o,s.heap.get? b=some o->b ∉ frs outer->∃ o',B.get? b=some o')/\E (.ref C) none H'
section
variable {P:Program} {w:World} {K:PySem.W.Frag} {mg:Str->Option Value} {base:Heap} {N:List Str} {qual:Str} {scope:Scope} {f:Addr} {cd:Value} {A:Around} {outer:List Env} {s0:Shared} {H0:Hp} {E:XK}
theorem nonf {h:Heap} {bb:Heap} {l:List Env} {b:Addr} {o:Obj} (ff:h.FunFrames bb l) (hb:b ∈ frs l) (q:h.get? b=some o):∀ vs,o.data ≠ .fields vs:=by
 obtain ⟨_,o',q',n⟩:=ff.mem hb
 rw [q] at q';cases q'
 exact n
theorem raise_cx {pins:List (Addr × Obj)} {σ:St} {H:Hp} {s:Shared} {h':Heap} {e C:Addr} {args:List Value} (I:Inv (cxOf (CXE P w) P w K mg base N qual scope f cd A outer s0 H0 E) pins σ H s)
  (mk:Heap.MadeExcOf s.heap h' e (.ref C) args) (hE:E (.ref C) none H):(cxOf (CXE P w) P w K mg base N qual scope f cd A outer s0 H0 E).xe (.ref e) { s with heap:=h' }:=by
 have nfree:∀ b ∈ frs (envOfC qual scope s0.heap.objs.size f cd :: outer),H b=none:=I.stkFree
 have ff:s.heap.FunFrames base (envOfC qual scope s0.heap.objs.size f cd :: outer):=I.stack
 have inB:∀ b o,s.heap.get? b=some o->b ∉ frs (envOfC qual scope s0.heap.objs.size f cd :: outer)->(PySem.W.hideAll s.heap (frs (envOfC qual scope s0.heap.objs.size f cd :: outer))).get? b=some o:=fun b o q n=>PySem.W.hideAll_get _ q n
 have st:(PySem.W.hideAll s.heap (frs (envOfC qual scope s0.heap.objs.size f cd :: outer))).StaysIn s.heap:=fun b o q=>PySem.W.of_hideAll _ q
 have cov:∀ c,H c ≠ none->∃ u,(PySem.W.hideAll s.heap (frs (envOfC qual scope s0.heap.objs.size f cd :: outer))).get? c=some u:=fun c hc=>by
  cases q:H c with
  | none=>exact absurd q hc
  | some o=>
   obtain ⟨u,hu⟩:=(I.hok c o q).there
   exact ⟨u,inB c u hu fun z=>hc (nfree c z)⟩
 have old:∀ b o,s0.heap.get? b=some o->b ∉ frs outer->b ∉ frs (envOfC qual scope s0.heap.objs.size f cd :: outer):=fun b o q n z=>by
  rcases List.mem_cons.mp (show b ∈ s0.heap.objs.size :: frs outer from z) with y | y
  ·exact Nat.lt_irrefl _ (Nat.lt_of_lt_of_eq (Heap.lt_size q) y.symm)
  ·exact n y
 refine leave_new (B:=PySem.W.hideAll s.heap (frs (envOfC qual scope s0.heap.objs.size f cd :: outer))) (h:=s.heap) I.ok.frames (PySem.W.funFrames_hide ff fun env he a ha=>List.mem_filterMap.mpr ⟨env,he,ha⟩) rfl st mk fun h2 F up=>?_
 have cov2:∀ b o,s0.heap.get? b=some o->H0 b=none->b ∉ frs outer->(PySem.W.hideAll s.heap (frs (envOfC qual scope s0.heap.objs.size f cd :: outer))).get? b=some o:=fun b o q n nb=>
  inB b o (I.base.keep b o q n nb (show b ∉ ([]:List Addr) by simp)) (old b o q nb)
 have cov3:∀ b o,s0.heap.get? b=some o->b ∉ frs outer->∃ o',(PySem.W.hideAll s.heap (frs (envOfC qual scope s0.heap.objs.size f cd :: outer))).get? b=some o':=fun b o q nb=>by
  obtain ⟨o',q'⟩:=I.base.there b o q (show b ∉ ([]:List Addr) by simp)
  exact ⟨o',inB b o' q' (old b o q nb)⟩
 have upf:∀ b o,b ∈ frs outer->s.heap.get? b=some o->∃ sl,h2.get? b=some { o with slots:=sl }:=fun b o hb q=>up b o (mk.keeps b o q) (nonf ff (List.mem_cons_of_mem _ hb) q)
 refine ⟨e,C,_,H,rfl,I.os,I.bare,⟨fun b o q n nb _=>F.1 b o (cov2 b o q n nb),fun b o q n hb nx=>?_,fun b o q n nx=>I.base.free b o q n nx,fun b o q nx=>?_,I.base.tups,I.base.frzs,I.base.tbls⟩,I.hok.air st F.1 cov,F,cov,cov2,cov3,hE⟩
 ·obtain ⟨sl,q1⟩:=I.base.slot b o q n hb nx
  obtain ⟨sl2,q2⟩:=upf b _ hb q1
  exact ⟨sl2,q2⟩
 ·by_cases hb:b ∈ frs outer
  ·obtain ⟨o',q1⟩:=I.base.there b o q nx
   obtain ⟨sl2,q2⟩:=upf b _ hb q1
   exact ⟨_,q2⟩
  ·obtain ⟨o',q1⟩:=cov3 b o q hb
   exact ⟨o',F.1 b o' q1⟩
theorem pass_cx:Passes (CXE P w) (cxOf (CXE P w) P w K mg base N qual scope f cd A outer s0 H0 E) E:=by
 rintro pins σ H s e s' I ⟨a,C,B,H',rfl,os,bare,u,hok,F,cov,cov2,cov3,hE⟩
 have old:∀ b o,s0.heap.get? b=some o->b ∉ frs outer->b ∉ frs (envOfC qual scope s0.heap.objs.size f cd :: outer):=fun b o q n z=>by
  rcases List.mem_cons.mp (show b ∈ s0.heap.objs.size :: frs outer from z) with y | y
  ·exact Nat.lt_irrefl _ (Nat.lt_of_lt_of_eq (Heap.lt_size q) y.symm)
  ·exact n y
 have nex:∀ b:Addr,b ∉ (cxOf (CXE P w) P w K mg base N qual scope f cd A outer s0 H0 E).ex:=fun b=>(show b ∉ ([]:List Addr) by simp)
 refine leave_on (C:=C) (B:=B) I.ok.frames rfl F fun h2 F2 up=>?_
 have cov2':∀ b o,s0.heap.get? b=some o->H0 b=none->b ∉ frs outer->B.get? b=some o:=fun b o q n nb=>
  cov2 b o (I.base.keep b o q n nb (nex b)) (I.base.free b o q n (nex b)) (old b o q nb)
 have cov3':∀ b o,s0.heap.get? b=some o->b ∉ frs outer->∃ o',B.get? b=some o':=fun b o q nb=>by
  obtain ⟨o',q'⟩:=I.base.there b o q (nex b)
  exact cov3 b o' q' (old b o q nb)
 have upf:∀ b o,b ∈ frs outer->s'.heap.get? b=some o->∃ sl,h2.get? b=some { o with slots:=sl }:=fun b o hb q=>up b o q (nonf F.2.2.1 (List.mem_cons_of_mem _ hb) q)
 refine ⟨a,C,B,H',rfl,os.trans I.os,bare,⟨fun b o q n nb _=>F2.1 b o (cov2' b o q n nb),fun b o q n hb nx=>?_,fun b o q n nx=>?_,fun b o q nx=>?_,fun b xs q=>u.tups b xs (I.base.tups b xs q),fun b o v q=>u.frzs b o v (I.base.frzs b o v q),fun b ps q=>?_⟩,hok.air F.1 F2.1 cov,F2,cov,cov2',cov3',hE⟩
 ·obtain ⟨sl,q1⟩:=I.base.slot b o q n hb (nex b)
  obtain ⟨sl1,q2⟩:=u.slot b _ q1 (I.base.free b o q n (nex b)) (List.mem_cons_of_mem _ hb) (by simp)
  obtain ⟨sl2,q3⟩:=upf b _ hb q2
  exact ⟨sl2,q3⟩
 ·obtain ⟨o',q1⟩:=I.base.there b o q (nex b)
  exact u.free b o' q1 (I.base.free b o q n (nex b)) (by simp)
 ·by_cases hb:b ∈ frs outer
  ·obtain ⟨o',q1⟩:=I.base.there b o q (nex b)
   obtain ⟨o2,q2⟩:=u.there b o' q1 (by simp)
   obtain ⟨sl2,q3⟩:=upf b _ hb q2
   exact ⟨_,q3⟩
  ·obtain ⟨o',q1⟩:=cov3' b o q hb
   exact ⟨o',F2.1 b o' q1⟩
 ·obtain ⟨m1,q1⟩:=I.base.tbls b ps q
  obtain ⟨m2,q2⟩:=u.tbls b _ q1
  exact ⟨m1 ++ m2,by rw [q2,Array.append_assoc]⟩
end
end L2
namespace L2
open PySem PySem.Spec PyProof.Rows
abbrev bmVE:List Value:=[.type "ValueError",.type "Exception",.type "BaseException",.type "object"]
structure ExcC (K:PySem.W.Frag) (mg:Str->Option Value) (x:Str) (C:Addr):Prop where
 at_:mg x=some (.ref C)
 ok:PySem.W.excIn K C bmVE "ValueError.__new__"=true
theorem exc_obj {K:PySem.W.Frag} {h:Heap} {C:Addr} {bmB:List Value} {newId:String} (X:K.In h) (q:PySem.W.excIn K C bmB newId=true) :
  ∃ bm N nm qn bs hdct sn sub ab col dd k0 k1 k2 k3 k5,∃ mN:Str->Option Value,h.get? C=some (excClassObj nm qn C N bs bm hdct sn sub ab col dd k0 k1 k2 k3 k5 newId)/\h.Ns N mN/\mN "__init__"=none/\OwnTail h bmB bm:=by
 unfold PySem.W.excIn at q
 split at q
 ·rename_i dd cd sl hk
  split at q
  ·rename_i C' bm k0 k1 k2 k3 n k5 e1 e2
   simp only [Bool.and_eq_true,beq_iff_eq,Bool.not_eq_true'] at q
   obtain ⟨⟨⟨⟨⟨r1,r2⟩,r3⟩,r4⟩,r5⟩,r6⟩:=q
   subst r1 r2
   cases cd with
   | mk nm bs mro ns qn hdc sn sub ab col del=>
    dsimp only at e1 r3 r5 r6
    subst e1 r3
    have esl:sl = #[k0,k1,k2,k3,some (.builtin n),k5]:=by
     cases sl with
     | mk l=>
      dsimp only at e2
      rw [e2]
    subst esl
    exact ⟨bm,ns,nm,qn,bs,hdc,sn,sub,ab,col,dd,k0,k1,k2,k3,k5,_,X _ _ hk,.of_isNs (PySem.W.isNs_of_in X r5),PySem.W.nsMap_none_of_in X r5 r6,PySem.W.tail_of_in X r4⟩
  ·cases q
 ·cases q
structure RaiseOk (X:Cx) (E:XK):Prop where
 hd:X.A.handled=none
 out:∀ (pins:List (Addr × Obj)) (σ:St) (H:Hp) (s:Shared) (h':Heap) (e C:Addr) (args:List Value),Inv X pins σ H s->Heap.MadeExcOf s.heap h' e (.ref C) args->E (.ref C) none H->X.xe (.ref e) { s with heap:=h' }
def tRaise (E:XK) (C:Addr):TS:=fun _ _ H=>E (.ref C) none H
section
variable {X:Cx} {E:XK} {x:Str} {C:Addr}
theorem ps_raise {z:Str} {j np cp cpos pos} (R:RaiseOk X E) (c:ExcC X.K X.mg x C) (hg:Gl X x:=by rfl) (hd:(x == ("__debug__" : Str))=false:=by decide) :
  PS X (.Raise (some (.Call (.Name x np) [.Constant (.str z) j cp] [] cpos)) none pos) (tRaise E C):=by
 intro pins s σ H D I h
 obtain ⟨bm,N,nm,qn,bs,hdct,sn,sub,ab,col,dd,k0,k1,k2,k3,k5,mN,hC,hN,hni,T⟩:=exc_obj I.ok.mod.kin c.ok
 refine wpAny_Raise_call_subT (C:=C) (nm:=nm) (q:=qn) (N:=N) (bs:=bs) (bm:=bm) (hdct:=hdct) (sn:=sn) (sub:=sub) (ab:=ab) (col:=col) (dd:=dd) (k0:=k0) (k1:=k1) (k2:=k2) (k3:=k3) (k5:=k5)
  PySem.F.excBase_ValueError (mN:=mN) (T.hasType PySem.F.excBase_ValueError.hasBase) R.hd rfl hni (ld_glob I hg c.at_ ⟨rfl,?_⟩ hd)
 refine Calls.evalArgs_plain (thn ((pa_cons pe_str pa_nil) cpos pins s σ H (fun vs H1=>vs=[.str z]/\H1=H) I ⟨rfl,rfl⟩) fun us s1 hz51=>?_)
 obtain ⟨vs,H1,I1,r,e1,e2⟩:=hz51
 subst e1 e2
 obtain ⟨u,rfl,_⟩:=r.one
 exact ⟨rfl,by show 1 <= sizeLine;decide,I1.bk _ _ hC,hN.keeps I1.bk,T.keeps I1.bk,fun h' e mk=>R.out pins σ _ s1 h' e C _ I1 mk h⟩
end
section
variable {P:Program} {w:World} {K:PySem.W.Frag} {mg:Str->Option Value} {base:Heap}
theorem raiseOk_cx {N:List Str} {qual:Str} {scope:Scope} {f:Addr} {cd:Value} {A:Around} {outer:List Env} {s0:Shared} {H0:Hp} {E:XK} {k:Nat} (hr:Room k (A.deeper (envOfC qual scope s0.heap.objs.size f cd))) :
  RaiseOk (cxOf (CXE P w) P w K mg base N qual scope f cd A outer s0 H0 E) E:=⟨hr.hd,fun _ _ _ _ _ _ _ _ I mk hE=>raise_cx I mk hE⟩
theorem Fun.okX {x qual:Str} {st:Stmt} {f:Addr} {fd:FuncData} {N ps:List Str} {k:Nat} {sp:Sp} (F:Fun K x qual st f fd) (S:FnScope N ps (defScope st)) (len:∀ vs H Q E,sp vs H Q E->vs.length=ps.length)
  (hbody:∀ (cdv:Value) (A:Around) (outer:List Env) (s:Shared) (H:Hp) (vs:List V) (Q:VK) (E:XK),Room k (A.deeper (envOfC qual (defScope st) s.heap.objs.size f cdv))->sp vs H Q E ->
   ∃ t,PSs (cxOf (CXE P w) P w K mg base N qual (defScope st) f cdv A outer s H E) (defBody st) t/\t { nx:=fun _ H'=>Q .non H',rt:=Q } (start N vs) H):FnOk P w K mg base (CXE P w) (k + 1) f fd ps sp:=by
 obtain ⟨oc,od,kV,doc,pm,an,cdv,ct,osl,rfl,lk,hcd⟩:=F.ex
 exact fn_of lk hcd S len fun A outer s H vs Q E hr hsp=>hbody cdv A outer s H vs Q E hr hsp
theorem FunG.okX {x:Str} {st:Stmt} {N ps:List Str} {k:Nat} {sp:Sp} (G:FunG K mg x st ps) (S:FnScope N ps (defScope st)) (len:∀ vs H Q E,sp vs H Q E->vs.length=ps.length)
  (hbody:∀ (f:Addr) (cdv:Value) (A:Around) (outer:List Env) (s:Shared) (H:Hp) (vs:List V) (Q:VK) (E:XK),Room k (A.deeper (envOfC x (defScope st) s.heap.objs.size f cdv))->sp vs H Q E ->
   ∃ t,PSs (cxOf (CXE P w) P w K mg base N x (defScope st) f cdv A outer s H E) (defBody st) t/\t { nx:=fun _ H'=>Q .non H',rt:=Q } (start N vs) H):Cal P w K mg base (CXE P w) (k + 1) x ps sp:=by
 obtain ⟨f,fd,F,hm,hb⟩:=G.ex
 exact ⟨f,fd,F.okX S len fun cdv A outer s H vs Q E hr h=>hbody f cdv A outer s H vs Q E hr h,hm,F.kp,hb⟩
theorem MthG.okX {C:Addr} {m qual:Str} {st:Stmt} {N ps:List Str} {k:Nat} {sp:Sp} (G:MthG K C m qual st ps) (S:FnScope N ps (defScope st)) (len:∀ vs H Q E,sp vs H Q E->vs.length=ps.length)
  (hbody:∀ (f:Addr) (cdv:Value) (A:Around) (outer:List Env) (s:Shared) (H:Hp) (vs:List V) (Q:VK) (E:XK),Room k (A.deeper (envOfC qual (defScope st) s.heap.objs.size f cdv))->sp vs H Q E ->
   ∃ t,PSs (cxOf (CXE P w) P w K mg base N qual (defScope st) f cdv A outer s H E) (defBody st) t/\t { nx:=fun _ H'=>Q .non H',rt:=Q } (start N vs) H):MCal P w K mg base (CXE P w) (k + 1) C m ps sp:=by
 obtain ⟨f,fd,F,hm,hb⟩:=G.ex
 exact ⟨f,fd,F.okX S len fun cdv A outer s H vs Q E hr h=>hbody f cdv A outer s H vs Q E hr h,hm,hb⟩
end
section
variable {X:Cx} {k:Nat} {C:Addr} {ps:List Str} {sp:Sp} {E:XK} {x m:Str} {p pos apos:Pos} {o e:Expr} {es:List Expr} {ta:TE} {t:TA}
theorem pe_calX (D:Cal X.prog X.w X.K X.mg X.base (CXE X.prog X.w) k x ps sp) (hx:Passes (CXE X.prog X.w) X E) (hr:Room k X.A) (ha:PA X (e :: es) t) (hg:Gl X x:=by rfl)
  (hdb:(x == ("__debug__" : Str))=false:=by decide) (he:starEach (e :: es) X.env=(false,eval e X.env) :: starEach es X.env:=by rfl) (hpl:(backTo pos (starEach es X.env)).any (·.1)=false:=by rfl) :
  PE X (.Call (.Name x p) (e :: es) [] pos) (tCall sp [] E t):=
 let ⟨_,_,F,hm,hk,hb⟩:=D.ex
 pe_call F hr hg hm hk hb .nil hx ha hdb he hpl
theorem pe_mthX {pl:Sem Bool} (D:MCal X.prog X.w X.K X.mg X.base (CXE X.prog X.w) k C m ps sp) (hx:Passes (CXE X.prog X.w) X E) (c:Cls X.K C) (hr:Room k X.A) (ho:PE X o ta) (ha:PA X (e :: es) t)
  (hst:starEach (e :: es) X.env=(false,eval e X.env) :: starEach es X.env:=by rfl) (hpl:(backTo pos (starEach es X.env)).any (·.1)=false:=by rfl)
  (ht:eval (.Call (.Attribute o m apos) (e :: es) [] pos) X.env=(do
   let ov <- eval o X.env
   standAt apos.atName
   let (f,first) <- holding [ov] (getMethod ov m pl)
   callWith pos f first (backTo pos (starEach (e :: es) X.env)) (backToKw pos (keywordEach [] X.env))):=by rfl) :
  PE X (.Call (.Attribute o m apos) (e :: es) [] pos) (tMeth C m sp [] E ta t):=
 let ⟨_,_,F,hm,hb⟩:=D.ex
 pe_meth ho c hm F hr hb .nil hx ha hst hpl ht
end
end L2
namespace L2
open PySem PySem.Spec PyProof.Rows
def excP (C a:Addr):Heap->Prop:=fun h=>∃ (ob:Obj) (cells:Array Value),h.get? a=some ob/\ClsIs ob C/\ob.data=.fields cells/\cells[2]?=some .none
abbrev excO (C a:Addr):HO:=.ext (excP C a)
abbrev XB (X:Cx) (pn':List (Addr × Obj)) (xe':Value->Shared->Prop):Cx:={ X with pn:=pn',xe:=xe' }
abbrev XH (X:Cx) (pn':List (Addr × Obj)) (a:Addr):Cx:={ X with pn:=pn',A:=X.A.mark (some (.ref a)),calm:=false,xe:=fun _ _=>False }
section
variable {X:Cx} {pins:List (Addr × Obj)} {σ:St} {H:Hp} {s:Shared}
theorem Inv.toB (I:Inv X pins σ H s) (xe':Value->Shared->Prop):Inv (XB X (X.pn ++ pins) xe') [] σ H s:=
 ⟨⟨I.ok.mod,I.ok.kind,I.ok.glob,I.ok.blt,I.ok.above,I.ok.inj,I.ok.has,I.ok.cab,I.ok.hd,I.ok.frames,I.ok.stk,I.ok.exf,I.ok.bs,I.ok.bsz,I.ok.noex,I.ok.exfs,I.ok.funs,I.ok.frf⟩,
  I.os,I.bare,I.base,I.loc,I.cell,I.free,I.freeC,fun p hp=>I.pin p (by simpa using hp),I.hok,I.len⟩
theorem Inv.ofB {pins':List (Addr × Obj)} {xe':Value->Shared->Prop} (I:Inv (XB X (X.pn ++ pins) xe') pins' σ H s):Inv X pins σ H s:=
 ⟨⟨I.ok.mod,I.ok.kind,I.ok.glob,I.ok.blt,I.ok.above,I.ok.inj,I.ok.has,I.ok.cab,I.ok.hd,I.ok.frames,I.ok.stk,I.ok.exf,I.ok.bs,I.ok.bsz,I.ok.noex,I.ok.exfs,I.ok.funs,I.ok.frf⟩,
  I.os,I.bare,I.base,I.loc,I.cell,I.free,I.freeC,fun p hp=>I.pin p (List.mem_append_left _ hp),I.hok,I.len⟩
theorem Inv.toH (I:Inv X pins σ H s) (a:Addr):Inv (XH X (X.pn ++ pins) a) [] σ H s:=
 ⟨⟨I.ok.mod,I.ok.kind,I.ok.glob,I.ok.blt,I.ok.above,I.ok.inj,I.ok.has,I.ok.cab,(fun z=>by cases z),I.ok.frames,I.ok.stk,I.ok.exf,I.ok.bs,I.ok.bsz,I.ok.noex,I.ok.exfs,I.ok.funs,I.ok.frf⟩,
  I.os,I.bare,I.base,I.loc,I.cell,I.free,I.freeC,fun p hp=>I.pin p (by simpa using hp),I.hok,I.len⟩
theorem Inv.ofH {a:Addr} {pins':List (Addr × Obj)} {σ0:St} {H0:Hp} {s0:Shared} (I0:Inv X pins σ0 H0 s0) (I:Inv (XH X (X.pn ++ pins) a) pins' σ H s):Inv X pins σ H s:=
 ⟨I0.ok,I.os,I.bare,I.base,I.loc,I.cell,I.free,I.freeC,fun p hp=>I.pin p (List.mem_append_left _ hp),I.hok,I.len⟩
theorem Inv.lose {h':Heap} {m':Str->Option Value} (I:Inv X pins σ H s) (sb:Heap.SameBut X.env.locals s.heap h') (hn:h'.Ns X.env.locals m'):Inv X pins (List.replicate X.N.length none) H { s with heap:=h' }:=by
 have same:∀ b,b ≠ X.env.locals->h'.get? b=s.heap.get? b:=fun b hb=>sb.2 b hb
 have neL:∀ b o,X.s₀.heap.get? b=some o->b ≠ X.env.locals:=fun b o q=>Nat.ne_of_lt (Nat.lt_of_lt_of_le (Heap.lt_size q) I.ok.above)
 refine ⟨I.ok,I.os,I.bare,⟨fun b o q n nb nx=>(same b (neL b o q)).trans (I.base.keep b o q n nb nx),fun b o q n hb nx=>?_,I.base.free,fun b o q nx=>?_,I.base.tups,I.base.frzs,I.base.tbls⟩,⟨m',hn,fun i x v e1 e2 _=>?_⟩,fun x c e=>?_,I.free,I.freeC,fun p hp=>?_,fun b o q=>?_,by simp⟩
 ·obtain ⟨sl,z⟩:=I.base.slot b o q n hb nx
  exact ⟨sl,(same b (neL b o q)).trans z⟩
 ·obtain ⟨o',z⟩:=I.base.there b o q nx
  exact ⟨o',(same b (neL b o q)).trans z⟩
 ·rw [List.getElem?_replicate] at e2
  split at e2 <;> cases e2
 ·obtain ⟨v,o,q,d⟩:=I.cell x c e
  exact ⟨v,o,(same c (I.cne x c e)).trans q,d⟩
 ·obtain ⟨e,n,ne,nf,d⟩:=I.pin p hp
  exact ⟨(same _ ne).trans e,n,ne,nf,d⟩
 ·refine (I.hok b o q).stay (fun c u hc z=>(same c fun y=>?_).trans z) (fun _ z=>z) fun _ _ z=>z
  have f0:=I.free
  rcases hc with r | r
  ·rw [<- r,y,f0] at q;cases q
  ·rw [y,f0] at r;cases r
end
theorem Inv.caught {X:Cx} {pins:List (Addr × Obj)} {σ:St} {H H':Hp} {s s1:Shared} {a C:Addr} {B h4:Heap} (I:Inv X pins σ H s) (os:s1.os=s.os) (bare:AllBare s1.gens) (u:Un (frs X.stack) [] H H' s.heap s1.heap)
  (hok:HOk X.prog X.w H' s1.heap) (F:Fly B X.stack a C .none s1.heap) (cov:∀ c,H' c ≠ none->∃ v,B.get? c=some v) (cov2:∀ b o,s.heap.get? b=some o->H b=none->b ∉ frs X.stack->B.get? b=some o)
  (cov3:∀ b o,s.heap.get? b=some o->b ∉ frs X.stack->∃ o',B.get? b=some o') (F4:Fly B X.stack a C .none h4) (up:s1.heap.UpToSlots h4) :
  H' a=none/\Inv X pins σ (upd H' a (excO C a)) { s1 with heap:=h4 }:=by
 have ha:H' a=none:=by
  cases q:H' a with
  | none=>rfl
  | some o=>
   obtain ⟨v,hv⟩:=cov a (by rw [q];intro z;cases z)
   rw [F.2.1] at hv;cases hv
 have nfr:a ∉ frs X.stack:=fun z=>by
  obtain ⟨ob,cells,tb,ot,tcs,q1,_,q2,_⟩:=F.2.2.2
  exact nonf F.2.2.1 z q1 cells q2
 have new:∀ b o,s.heap.get? b=some o->b ≠ a:=fun b o q z=>by
  subst z
  obtain ⟨o',q'⟩:=cov3 b o q nfr
  rw [F.2.1] at q';cases q'
 have ne:∀ b o,H' b=some o->b ≠ a:=fun b o q z=>by rw [z,ha] at q;cases q
 have upf:∀ b o,b ∈ frs X.stack->s1.heap.get? b=some o->∃ sl,h4.get? b=some { o with slots:=sl }:=fun b o hb q=>up b o q (nonf F.2.2.1 hb q)
 refine ⟨ha,I.call' (s':={ s1 with heap:=h4 }) (ch:=[]) os ⟨fun b o q n nb _=>F4.1 b o (cov2 b o q n nb),fun b o q n hb nx=>?_,fun b o q n nx=>?_,fun b o q nx=>?_,fun b xs q=>?_,fun b o v q=>?_,fun b ps q=>?_⟩ (fun b o q=>?_) bare fun b hb=>absurd hb List.not_mem_nil⟩
 ·obtain ⟨sl,q1⟩:=u.slot b o q n hb nx
  obtain ⟨sl2,q2⟩:=upf b _ hb q1
  exact ⟨sl2,q2⟩
 ·rw [upd_ne (new b o q)];exact u.free b o q n nx
 ·by_cases hb:b ∈ frs X.stack
  ·obtain ⟨o',q1⟩:=u.there b o q nx
   obtain ⟨sl2,q2⟩:=upf b _ hb q1
   exact ⟨_,q2⟩
  ·obtain ⟨o',q1⟩:=cov3 b o q hb
   exact ⟨o',F4.1 b o' q1⟩
 ·have q1:=u.tups b xs q
  rw [upd_ne (ne b _ q1)];exact q1
 ·have q1:=u.frzs b o v q
  rw [upd_ne (ne b _ q1)];exact q1
 ·obtain ⟨more,q1⟩:=u.tbls b ps q
  exact ⟨more,by rw [upd_ne (ne b _ q1)];exact q1⟩
 ·by_cases hb:b=a
  ·subst hb
   rw [upd_same] at q
   cases q
   obtain ⟨ob,cells,tb,ot,tcs,q1,q2,q3,q4,_⟩:=F4.2.2.2
   refine ⟨⟨ob,cells,q1,q2,q3,q4⟩,⟨ob,q1⟩,fun h1 h2 ⟨o1,c1,r1,r2,r3,r4⟩ k=>⟨o1,c1,k o1 r1,r2,r3,r4⟩⟩
  ·rw [upd_ne hb] at q
   have z:=(hok.air F.1 F4.1 cov) b o q
   exact z.stay (fun c v _ z=>z) (fun c z=>by rw [upd_ne (ne c _ z)];exact z) fun c xs z=>by rw [upd_ne (ne c _ z)];exact z
def tTry (Nn:Nat) (ci:Addr->Prop) (n:Nat) (tb:XK->TS) (th:Addr->TS):TS:=fun D σ H=>
 tb (fun cls _ H'=>∃ C,cls=.ref C/\ci C/\∀ (a:Addr) (σ':St),σ'.length=Nn->H' a=none->th a { nx:=fun _ _=>False,rt:=D.rt } (σ'.set n (some (.ref a))) (upd H' a (excO C a))) D σ H
theorem ps_try {X:Cx} {body:List Stmt} {b0:Stmt} {suite:List Stmt} {T n:Str} {tp hp pos:Pos} {i:Nat} {DC:Addr} {tb:XK->TS} {th:Addr->TS}
  (hm:X.mg T=some (.ref DC)) (hN:X.N.Nodup) (hi:X.N[i]?=some n) (hl:X.env.kindOf n=some .local)
  (hb:∀ (pn':List (Addr × Obj)) (xe':Value->Shared->Prop) (E1:XK),Passes (CXE X.prog X.w) (XB X pn' xe') E1->PSs (XB X pn' xe') body (tb E1))
  (hh:∀ (pn':List (Addr × Obj)) (a:Addr),PSs (XH X pn' a) (b0 :: suite) (th a)) (hg:Gl X T:=by rfl) (hstk:X.stack=X.env :: X.outer:=by rfl) (hfr:X.env.frame=some X.env.locals:=by rfl) (hk:X.env.scope.kind=.function:=by rfl) (hd:(T == ("__debug__" : Str))=false:=by decide) :
  PS X (.Try body [.ExceptHandler (some (.Name T tp)) (some n) (b0 :: suite) hp] [] [] pos) (tTry X.N.length (fun C=>PySem.W.exmOne X.K (.ref C) (.ref DC)=some true) i tb th):=by
 intro pins s0 σ0 H0 D I0 h0
 refine wpAny_Try_except ?_
 have I1:=I0.toB (fun e s1=>∃ σ H s,Inv X pins σ H s/\CXE X.prog X.w X.stack H s (fun cls _ H'=>∃ C,cls=.ref C/\PySem.W.exmOne X.K (.ref C) (.ref DC)=some true/\∀ (a:Addr) (σ':St),σ'.length=X.N.length->H' a=none->th a { nx:=fun _ _=>False,rt:=D.rt } (σ'.set i (some (.ref a))) (upd H' a (excO C a))) e s1)
 have run:=hb _ _ _ (fun pins' σ H s e s' I z=>⟨σ,H,s,I.ofB,z⟩) [] s0 σ0 H0 D I1 h0
 refine wpAny_mono run (fun f s1 hs=>?_) fun e s1 hs=>?_
 ·cases f with
  | next=>
   obtain ⟨σ',H',I',q⟩:=hs
   exact wpAny_execs_nil ⟨σ',H',I'.ofB,q⟩
  | brk=>obtain ⟨σ',H',I',q⟩:=hs;exact ⟨σ',H',I'.ofB,q⟩
  | cont=>obtain ⟨σ',H',I',q⟩:=hs;exact ⟨σ',H',I'.ofB,q⟩
  | ret v=>obtain ⟨x,σ',H',I',r,q⟩:=hs;exact ⟨x,σ',H',I'.ofB,r,q⟩
 ·obtain ⟨σ,H,s,I,a,C,B,H',rfl,os,bare,u,hok,F,cov,cov2,cov3,C',eC,hex,hth⟩:=hs
  cases eC
  have Fs:=F
  rw [hstk] at Fs
  refine note_on (by rw [I.ok.frames,hstk]) hfr Fs fun h2 F2 u2=>?_
  refine land_on F2 fun h3 F3 u3=>?_
  have F3':Fly B X.stack a C .none h3:=by rw [hstk];exact F3
  obtain ⟨ha,I3⟩:=I.caught os bare u hok F cov cov2 cov3 F3' (u2.trans u3)
  obtain ⟨ob,cells,tb',ot,tcs,ge,gc,_⟩:=id F3.2.2.2
  have LT:PySem.W.Looks (model X.prog X.w) h3 (typeOf (.ref a)) (.ref C):=by
   have z:PySem.W.Looks (model X.prog X.w) h3 (typeOf (.ref a)) ob.cls:=(PySem.W.Looks.ld ge).andThen .now
   rw [gc.1] at z;exact z
  refine wpAny_handleBy_cons (codeAny_handlers_test ?_) (by intro z;cases z)
  refine ld_glob (I3.toH a) (show Gl (XH X (X.pn ++ pins) a) T from hg) hm ?_ hd
  refine PySem.W.exm_one (M:=model X.prog X.w) I3.kIn LT hex _ _ _ _ (fun _ _ z=>z) ?_
  refine codeAny_handlers_suite_as ?_
  refine land_on F3 fun h4 F4 u4=>?_
  have F4':Fly B X.stack a C .none h4:=by rw [hstk];exact F4
  obtain ⟨_,I4⟩:=I.caught os bare u hok F cov cov2 cov3 F4' ((u2.trans u3).trans u4)
  refine store_ok I4 hN hi (.inl hl) (v:=.ref a) rfl (fun s5 I5=>?_) (.inr hl)
  refine wpAny_mono (hh (X.pn ++ pins) a [] s5 _ _ _ (I5.toH a) (hth a σ I.len ha)) (fun f s6 hs6=>?_) fun _ _ z=>z.elim
  cases f with
  | next=>obtain ⟨_,_,_,z⟩:=hs6;exact z.elim
  | brk=>obtain ⟨_,_,_,z⟩:=hs6;exact z.elim
  | cont=>obtain ⟨_,_,_,z⟩:=hs6;exact z.elim
  | ret v=>
   obtain ⟨x6,σ6,H6,I6,r6,q6⟩:=hs6
   have I6':Inv X pins σ6 H6 s6:=I4.ofH I6
   refine wpAny_bind (wpAny_bindName (store_ok I6' hN hi (.inl hl) (v:=.non) rfl (fun s7 I7=>?_) (.inr hl)))
   unfold unbindBehindTheSuite
   obtain ⟨m,hn,hlk⟩:=id I7.loc
   have hi':(σ6.set i (some V.non))[i]?=some (some V.non):=by
    rw [List.getElem?_set_self]
    rw [I6'.len];exact (List.getElem?_eq_some_iff.mp hi).1
   obtain ⟨v7,_,lk⟩:=hlk i n .non hi hi' (.inl hl)
   have hv:m n=some v7:=by
    rcases lk with ⟨_,z⟩ | ⟨z,_⟩
    ·exact z
    ·rcases z with z | z <;> (rw [hl] at z;cases z)
   refine wpAny_onRaise (wpAny_unbindName_local hl hn hv (by rw [hk];rfl) fun h8 w8 hn8 sb8=>?_)
   exact ⟨x6,_,H6,I7.lose sb8 hn8,r6,q6⟩
end L2
namespace L2
open PySem PySem.Spec PyProof.Rows PySem.W
structure ExcK (K:Frag) (C:Addr):Prop where
 ga:findIn K (.ref C) "__getattribute__"=some (some (.builtin "BaseException.__getattribute__"))
 gt:findIn K (.ref C) "__getattr__"=some none
 ca:findIn K (.ref C) "__class__"=some (some (.builtin "object.__class__"))
 sg:specialIn K (.builtin "object.__class__") "__get__"=some (some (.builtin "getset_descriptor.__get__"))
 tk:takesIn K (.builtin "object.__class__")=some true
 mo:mroIn K C (.type "object")=some true
 hd:hasDictIn K C=true
 be:subIn K (.ref C) (.type "BaseException")=some true
section
variable {prog:Program} {w:World} {A:Around} {E:Value->Shared->Prop} {K:Frag} {x C:Addr} {ox:Obj} {h:Heap} {g:Array GenState} {d:Drawn} {t:Nat} {os:OsState}
theorem exc_find (k:ExcK K C):findObj K C none "__class__"=some (.bind (.builtin "getset_descriptor.__get__") (.builtin "object.__class__")):=by
 obtain ⟨cd,hc,_⟩:=any_some k.hd
 unfold findObj
 rw [hc,Option.bind_some,k.ca,Option.bind_some]
 simp [k.sg,k.tk]
theorem class_entry_exc {tok:Tok} {Q:Fin->Shared->Prop} (k:ExcK K C) (X:K.In h) (I:InstAt h x ox C none) (hq:Q (.done (.ret (.ref C))) ⟨h,g,d,t,os⟩) :
  wpAny (model prog w) A (Builtin.«object.__getattribute__» ⟨[.ref x,.str "__class__" tok],[]⟩) Q E ⟨h,g,d,t,os⟩:=by
 have L0:=I.type (M:=model prog w)
 have L1:=looks_find (M:=model prog w) X I (exc_find k)
 unfold Builtin.«object.__getattribute__»
 repeat (any_goals (first | assumption | with_reducible refine L0.at ?_ | with_reducible refine L1.at ?_ | wp_step))
 exact class_get (s:=⟨h,g,d,t,os⟩) X I k.mo (wpAny_pure hq)
theorem check_ga_exc {M:Model} {nameV:Value} {Q:Unit->Shared->Prop} (k:ExcK K C) (X:K.In h) (I:InstAt h x ox C none) (hq:Q () ⟨h,g,d,t,os⟩) :
  wpAny M A (checkBuiltinCall "BaseException.__getattribute__" ⟨[.ref x,nameV],[]⟩) Q E ⟨h,g,d,t,os⟩:=by
 have kd:builtinKind "BaseException.__getattribute__"=some .slot:=by decide +kernel
 have sp:splitId "BaseException.__getattribute__"=some ("BaseException","__getattribute__"):=by decide +kernel
 have LI:Looks M h (isInstance (.ref x) (.type "BaseException")) true:=(I.type (M:=M)).andThen (looks_subIn X k.be)
 have ar:=F.args_bexc_ga (.ref x) nameV
 simp only [checkBuiltinCall,kd,sp]
 refine wpAny_bind (LI.at ?_)
 repeat (any_goals (first | assumption | wp_step))
theorem class_call_exc {tok:Tok} {R:Result->Shared->Prop} (k:ExcK K C) (X:K.In h) (I:InstAt h x ox C none) (hq:R (.ok (.ret (.ref C))) ⟨h,g,d,t,os⟩) :
  codeAny (model prog w) A (.call (.builtin "BaseException.__getattribute__") ⟨[.ref x,.str "__class__" tok],[]⟩) R ⟨h,g,d,t,os⟩:=
 codeAny_call_builtin F.attrBase_ValueError.ga.plain F.entry_bexc_ga (check_ga_exc k X I (class_entry_exc k X I hq))
theorem class_by_exc {tok:Tok} {Q:Value->Shared->Prop} (k:ExcK K C) (X:K.In h) (I:InstAt h x ox C none) (hq:Q (.ref C) ⟨h,g,d,t,os⟩) :
  wpAny (model prog w) A (getAttrBy (.ref x) (.str "__class__" tok) false) Q E ⟨h,g,d,t,os⟩:=by
 have f3:=F.attrBase_ValueError.ga.bind (.ref x)
 have x2:(Value.builtin "BaseException.__getattribute__" == Value.builtin "object.__getattribute__")=false:=by decide +kernel
 have x1:(onTheHeap (Value.ref C) && Value.builtin "BaseException.__getattribute__" == Value.builtin "object.__getattribute__")=false:=by rw [x2];rfl
 have L0:=I.type (M:=model prog w)
 have L1:=looks_findIn (M:=model prog w) X k.ga
 have L2:=looks_findIn (M:=model prog w) X k.gt
 repeat (any_goals (first | assumption | with_reducible refine L0.at ?_ | with_reducible refine L1.at ?_ | with_reducible refine L2.at ?_ | wp_step))
 refine class_call_exc k X I ?_
 repeat (any_goals (first | assumption | wp_step))
theorem class_attr_exc {Q:Option Value->Shared->Prop} (k:ExcK K C) (X:K.In h) (I:InstAt h x ox C none) (hq:Q (some (.ref C)) ⟨h,g,d,t + 1,os⟩) :
  wpAny (model prog w) A (getAttr? (.ref x) "__class__") Q E ⟨h,g,d,t,os⟩:=by
 unfold getAttr? getAttrBy?
 repeat (any_goals (first | assumption | with_reducible apply class_by_exc k X I | wp_step))
theorem kitx_exc (k:ExcK K C):KitX K (.ref x) (.ref C) (fun h=>∃ ox,InstAt h x ox C none) where
 ty:=fun _ _ _ ⟨_,I⟩=>I.type
 it:=fun _ _ X _=>by
  obtain ⟨cd,hc,_⟩:=any_some k.hd
  unfold clsIn at hc
  split at hc
  ·rename_i c1 d1 cd1 sl1 hk
   intro A' Q' E' s' kk q
   unfold isType loadHead
   exact wpAny_bind (wpAny_loadPart (kk _ _ (X _ _ hk)) (wpAny_pure q))
  ·cases hc
 ne:=fun h tp dd its n sl X htp=>by
  obtain ⟨cd,hc,_⟩:=any_some k.hd
  refine Bool.eq_false_iff.mpr fun q=>?_
  have e1:C=tp:=Value.ref.inj (beq_iff_eq.mp q)
  subst e1
  unfold clsIn at hc
  split at hc
  ·rename_i c1 d1 cd1 sl1 hk
   cases ((X _ _ hk).symm.trans htp)
  ·cases hc
 ca:=fun {_ _ _ _ _ s} X ⟨ox,I⟩ hq=>by
  obtain ⟨h,g,d,t,os⟩:=s
  exact class_attr_exc k X I hq
end
section
variable {X:Cx}
theorem exc_inst {C a:Addr} {h:Heap} (p:excP C a h):∃ ox,InstAt h a ox C none:=by
 obtain ⟨ob,cells,q1,⟨q2,q3⟩,q4,_⟩:=p
 refine ⟨ob,q1,q2,?_,?_⟩
 ·unfold notCls
  rw [q4]
 ·rw [q3];trivial
def rIsE (K:Frag) (c:V) (cv:Value):List V->Hp->VK->Prop:=fun xs H Q=>∃ a C b,xs=[.ref a,c]/\H a=some (excO C a)/\ExcK K C/\kitOne K (.ref C) cv=some b/\Q (.bl b) H
theorem call_isE {D:Addr}:CallR X (.builtin "isinstance") (rIsE X.K (.ref D) (.ref D)):=by
 intro pins s σ H xs us Q I r h
 obtain ⟨a,C,b,rfl,ha,k,e,q⟩:=h
 obtain ⟨u,v,rfl,ru,rv⟩:=r.two
 cases ru;cases rv
 obtain ⟨p,_,_⟩:=(show ObjOk X.prog X.w H s.heap a (excO C a) from I.hok a _ ha)
 exact kia_one (kitx_exc k) I.kIn (exc_inst p) e (fun z=>nomatch z) fun tk=>⟨.bl b,H,I.tok tk,rfl,q⟩
theorem call_isET {T:String}:CallR X (.builtin "isinstance") (rIsE X.K (.ty T) (.type T)):=by
 intro pins s σ H xs us Q I r h
 obtain ⟨a,C,b,rfl,ha,k,e,q⟩:=h
 obtain ⟨u,v,rfl,ru,rv⟩:=r.two
 cases ru;cases rv
 obtain ⟨p,_,_⟩:=(show ObjOk X.prog X.w H s.heap a (excO C a) from I.hok a _ ha)
 exact kia_one (kitx_exc k) I.kIn (exc_inst p) e (fun z=>nomatch z) fun tk=>⟨.bl b,H,I.tok tk,rfl,q⟩
end
end L2
namespace L2
open PySem PySem.Spec PyProof.Rows
section
variable {prog:Program} {w:World} {A:Around} {E:Value->Shared->Prop} {s:Shared}
theorem entry_unchain:entryFor table "proto.unchain"=some Builtin.«proto.unchain»:=entryFor_of_fast (by kernel_rfl)
theorem unchain_none {e hx:Addr} {ob:Obj} {cells:Array Value} {Q:Value->Shared->Prop} (gh:s.heap.get? hx=some ob) (gd:ob.data=.fields cells) (g2:cells[2]?=some .none) (q:Q .none s) :
  wpAny (model prog w) A (runValue (.builtin "proto.unchain" ⟨[.ref e,.ref hx,.ref hx,.bool false],[]⟩)) Q E s:=by
 refine wpAny_runValue (codeAny_builtin entry_unchain ?_)
 unfold Builtin.«proto.unchain»
 refine wpAny_bind (wpAny_field gh gd g2 ?_)
 rw [if_pos (by rfl)]
 first | exact wpAny_pure q | (refine wpAny_bind ?_;exact wpAny_pure (wpAny_pure q)) | (repeat (any_goals (first | assumption | wp_step)))
theorem raise_handled {e hx:Addr} {oe ob:Obj} {cells ce:Array Value} {α:Type} {Q:α->Shared->Prop} (hh:A.handled=some (.ref hx)) (gh:s.heap.get? hx=some ob) (gd:ob.data=.fields cells) (g2:cells[2]?=some .none)
  (ge:s.heap.get? e=some oe) (ged:oe.data=.fields ce) (gz:2 < ce.size) (ne:hx ≠ e) (q:E (.ref e) { s with heap:=s.heap.update e (Obj.mapFields (·.setIfInBounds 2 (.ref hx))) }) :
  wpAny (model prog w) A (raiseNew (.ref e):Sem α) Q E s:=by
 simp only [raiseNew]
 refine wpAny_bind (wpAny_handled ?_)
 rw [hh]
 have b1:(Value.ref hx != Value.ref e)=true:=by simp [ne]
 dsimp only
 rw [if_pos b1]
 refine wpAny_bind (wpAny_holding (unchain_none gh gd g2 ?_))
 refine wpAny_bind ?_
 unfold updateField
 refine wpAny_bind (wpAny_load ge ?_)
 rw [ged]
 dsimp only
 rw [if_pos gz]
 exact wpAny_update ge (wpAny_throw q)
theorem next_endH {it hx C:Addr} {x left step:Int} {Q:Option Value->Shared->Prop} (hh:A.handled=some (.ref hx)) (p:excP C hx s.heap) (hit:IsRangeIter s.heap it x left step) (hleft:left <= 0)
  (hQ:∀ h',(∀ b o,s.heap.get? b=some o->h'.get? b=some o)->Q none { s with heap:=h' }):wpAny (model prog w) A (pyNext (.ref it)) Q E s:=by
 have ty:s.TypeIs (.ref it) "range_iterator":=⟨_,hit,rfl⟩
 obtain ⟨ob,cells,gh,_,gd,g2⟩:=p
 unfold pyNext
 refine wpAny_bind (wpAny_attempt (wpAny_callSpecial?_slot (name:=Str.ofString "__next__") ty F.slot_range_iterator_next (wpAny_call_entry F.slot_range_iterator_next ty F.entry_range_iterator_next ?_ (F.args_range_iterator_next_1 _))))
 change wpAny _ _ (field (.ref it) 0 >>= _) _ _ s
 refine wpAny_bind (wpAny_field hit rfl (x:=rawInt x) rfl (show wpAny _ _ (field (.ref it) 1 >>= _) _ _ s from wpAny_bind (wpAny_field hit rfl (x:=rawInt left) rfl (show wpAny _ _ (field (.ref it) 2 >>= _) _ _ s from wpAny_bind (wpAny_field hit rfl (x:=rawInt step) rfl ?_)))))
 change wpAny _ _ (if left <= 0 then _ else _) _ _ s
 rw [if_pos hleft]
 refine wpAny_bind (wpAny_rule (wpAny_bind ?_))
 change wpAny _ _ (newExc (.type "StopIteration") [] >>= _) _ _ _
 refine wpAny_bind ?_
 simp only [newExc,newTuple]
 refine wpAny_bind (wpAny_newObj_type (T:="tuple") ?_ (by size_fits))
 refine wpAny_bind (m:=firstArgMember _ _) (wpAny_of_eq (a:=Value.none) (by first | rfl | (simp only [firstArgMember];rfl)) (wpAny_newObj_type ?_ (by size_fits)))
 generalize hp1:(s.heap.push _:Heap)=g1
 have k1:∀ b o,s.heap.get? b=some o->g1.get? b=some o:=fun b o q=>by rw [<- hp1];exact Heap.get?_push_of_some _ q
 generalize hob:({ cls:=Value.type "StopIteration",dict:=none,data:=_ }:Obj)=so
 have k2:∀ b o,s.heap.get? b=some o->(g1.push so).get? b=some o:=fun b o q=>Heap.get?_push_of_some _ (k1 b o q)
 have ged:∃ ce:Array Value,so.data=.fields ce/\2 < ce.size:=⟨_,by rw [<- hob],by simp;omega⟩
 obtain ⟨ce,ged,gz⟩:=ged
 have ge:(g1.push so).get? g1.objs.size=some so:=Heap.get?_push_size _ (Obj.isFreed_of_fields ged)
 have cl:so.cls=.type "StopIteration":=by rw [<- hob]
 have nhx:hx ≠ g1.objs.size:=Nat.ne_of_lt (Heap.lt_size (k1 _ _ gh))
 have up:∀ b o,s.heap.get? b=some o->((g1.push so).update g1.objs.size (Obj.mapFields (·.setIfInBounds 2 (.ref hx)))).get? b=some o:=fun b o q=>by
  rw [Heap.get?_update_other _ _ (Nat.ne_of_gt (Heap.lt_size (k1 b o q)))];exact k2 b o q
 refine raise_handled (hx:=hx) (oe:=so) (ce:=ce) hh (k2 _ _ gh) gd g2 ge ged gz nhx ?_
 dsimp only
 refine wpAny_bind (wpAny_isInstance (T:="StopIteration") (b:=true) ⟨_,Heap.get?_update_self _ ge (Obj.isFreed_of_fields (Obj.data_mapFields ged _)),(Obj.cls_mapFields _ _).trans cl⟩ isSubtype_stop ?_)
 exact wpAny_pure (hQ _ up)
end
structure TurnH (hx:Addr) (P:Program) (w:World) (tg:Expr) (J:It) (fp:List Addr) (it:Addr) (tn:Nat->Heap->Prop):Prop where
 mem:it ∈ fp
 obj:∀ i h,tn i h->∀ b ∈ fp,∃ o,h.get? b=some o/\∀ v,o.data ≠ .cell v
 keep:∀ i h h',tn i h->(∀ b ∈ fp,∀ o,h.get? b=some o->h'.get? b=some o)->tn i h'
 item:∀ (X:Cx),X.prog=P->X.w=w->X.A.handled=some (.ref hx)->∀ (i:Nat) (pins:List (Addr × Obj)) (s:Shared) (σ:St) (H:Hp) (E:Value->Shared->Prop),Inv X pins σ H s->(∀ b ∈ fp,FpOk X pins H b)->tn i s.heap->J.go i H ->
  wpAny (model P w) X.A (pyNext (.ref it)) (fun r s1=>∃ u,r=some u /\
   wpAny (model P w) X.A (letOwnedTupleGo tg (.ref it) u) (fun _ s2=>∃ x H',Inv X pins σ H' s2/\RelV x u/\J.yld i H x H'/\tn (i + 1) s2.heap/\∀ b ∈ fp,H' b=none) E s1) E s
 done:∀ (X:Cx),X.prog=P->X.w=w->X.A.handled=some (.ref hx)->∀ (i:Nat) (pins:List (Addr × Obj)) (s:Shared) (σ:St) (H:Hp) (E:Value->Shared->Prop),Inv X pins σ H s->(∀ b ∈ fp,FpOk X pins H b)->tn i s.heap->J.stop i H ->
  wpAny (model P w) X.A (pyNext (.ref it)) (fun r s1=>r=none/\Inv X pins σ H s1) E s
 self:∀ (A:Around) (i:Nat) (s:Shared) (Q:Value->Shared->Prop) (E:Value->Shared->Prop),tn i s.heap->Q (.ref it) s->wpAny (model P w) A (pyIter (.ref it)) Q E s
def PIEH (hx:Addr) (X:Cx) (pins:List (Addr × Obj)) (σ:St) (tg:Expr) (R:It->Hp->Prop) (itv:Value) (s2:Shared):Prop:=
 ∃ (it:Addr) (fp:List Addr) (tn:Nat->Heap->Prop) (J:It) (H':Hp),itv=.ref it/\Inv X pins σ H' s2/\TurnH hx X.prog X.w tg J fp it tn/\tn 0 s2.heap/\(∀ b ∈ fp,FpOk X pins H' b)/\R J H'
def PIH (hx:Addr) (X:Cx) (tg iter:Expr) (wi:TI):Prop:=
 ∀ (pins:List (Addr × Obj)) (s:Shared) (σ:St) (H:Hp) (R:It->Hp->Prop),Inv X pins σ H s->wi σ H R ->
  wpAny (model X.prog X.w) X.A (eval iter X.env) (fun v s1=>wpAny (model X.prog X.w) X.A (pyIter v) (PIEH hx X pins σ tg R) X.xe s1) X.xe s
def ItrH (hx:Addr) (lo:Int) (n:Nat):It:=⟨fun i _=>i < n,fun i H x H'=>H'=H/\x=.int (lo + i),fun i H=>n <= i/\∃ C,H hx=some (excO C hx)⟩
theorem turn_rangeH {hx:Addr} {P:Program} {w:World} {tg:Expr} (it:Addr) (lo:Int) (n:Nat):TurnH hx P w tg (ItrH hx lo n) [it] it (fun i h=>IsRangeIter h it (lo + (i:Nat) * 1) ((n:Int) - (i:Nat)) 1) where
 mem:=by simp
 obj:=fun i h st b hb=>by
  have e:b=it:=by simpa using hb
  subst e
  exact ⟨_,st,fun v z=>by
   have z':Data.fields _=Data.cell v:=z
   cases z'⟩
 keep:=fun i h h' st k=>k it (by simp) _ st
 item:=by
  intro X hP hw hc i pins s σ H E I hf st hg
  subst hP hw
  obtain ⟨f0,f1,f2,f3,f4,f5⟩:=hf it (by simp)
  refine wpAny_pyNext_range_item st (by have:i < n:=hg;omega) fun h' st' sb=>?_
  have I1:Inv X pins σ H { s with heap:=h',toks:=s.toks + 1 }:=I.turned (fun b o hb e=>(sb.2 b hb).trans e) f0 f1 f3 f4 f5
  have e1:lo + ((i + 1:Nat):Int) * 1=lo + (i:Int) * 1 + 1:=by omega
  have e2:(n:Int) - ((i + 1:Nat):Int)=(n:Int) - (i:Int) - 1:=by omega
  have st2:IsRangeIter h' it (lo + ((i + 1:Nat):Int) * 1) ((n:Int) - ((i + 1:Nat):Int)) 1:=by rw [e1,e2];exact st'
  refine ⟨_,rfl,go_of (s:={ s with heap:=h',toks:=s.toks + 1 }) (n:="range_iterator") st' rfl rfl (by decide) ⟨.int (lo + i),H,I1,⟨s.toks,?_⟩,⟨rfl,rfl⟩,st2,fun b hb=>(hf b hb).1⟩⟩
  rw [Int.mul_one]
 done:=by
  intro X hP hw hc i pins s σ H E I hf st hg
  subst hP hw
  obtain ⟨f0,f1,f2,f3,f4,f5⟩:=hf it (by simp)
  obtain ⟨hn,C,hC⟩:=hg
  obtain ⟨p,_,_⟩:=(show ObjOk X.prog X.w H s.heap hx (excO C hx) from I.hok hx _ hC)
  exact next_endH hc p st (by omega) fun h' kk=>⟨rfl,I.kept (t':=s.toks) fun b o e=>kk b o e⟩
 self:=fun _ _ _ _ _ st h=>wpAny_pyIter_rangeiter st h
section
variable {X:Cx} {tg:Expr} {hx:Addr}
theorem range_itH {pins:List (Addr × Obj)} {σ:St} {H:Hp} {s:Shared} {R:It->Hp->Prop} {E:Value->Shared->Prop} {lo hi:Int} {t u v:Tok} {tk:Nat} (I:Inv X pins σ H s) (h1:-(2 ^ 62) <= lo) (h2:lo < 2 ^ 62) (h3:-(2 ^ 62) <= hi) (h4:hi < 2 ^ 62)
  (q:R (ItrH hx lo (hi - lo).toNat) H):wpAny (model X.prog X.w) X.A (pyIter (.ref s.heap.objs.size)) (PIEH hx X pins σ tg R) E { s with heap:=s.heap.push { cls:=.type "range",data:=.fields #[.int lo t,.int hi u,.int 1 v] },toks:=tk }:=by
 refine wpAny_pyIter_range (IsRange.new ..) (small_one h1 h2 h3 h4) ?_
 have I1:Inv X pins σ H { s with heap:=s.heap.push { cls:=.type "range",data:=.fields #[.int lo t,.int hi u,.int 1 v] },toks:=tk }:=I.kept fun b o e=>Heap.get?_push_of_some _ e
 refine ⟨(s.heap.push { cls:=.type "range",data:=.fields #[.int lo t,.int hi u,.int 1 v] }).objs.size,[(s.heap.push { cls:=.type "range",data:=.fields #[.int lo t,.int hi u,.int 1 v] }).objs.size],_,_,H,rfl,
  I1.kept (t':=tk) fun b o e=>Heap.get?_push_of_some _ e,turn_rangeH _ lo (hi - lo).toNat,?_,fun b hb=>?_,q⟩
 ·have e1:lo + ((0:Nat):Int) * 1=lo:=by simp
  have e2:(((hi - lo).toNat:Nat):Int) - ((0:Nat):Int)=Builtin.Range.rangeSize lo hi 1:=by rw [rangeSize_one];split <;> omega
  show IsRangeIter _ _ (lo + ((0:Nat):Int) * 1) ((((hi - lo).toNat:Nat):Int) - ((0:Nat):Int)) 1
  rw [e1,e2]
  exact Heap.get?_push_size _ rfl
 ·have e:b=(s.heap.push { cls:=.type "range",data:=.fields #[.int lo t,.int hi u,.int 1 v] }).objs.size:=by simpa using hb
  subst e
  exact I1.fpOk (Nat.le_refl _) (I1.hok.fresh (Nat.le_refl _))
def iRng1H (hx:Addr) (ta:TA):TI:=fun σ H R=>ta σ H fun vs H1=>∃ j:Int,vs=[.int j]/\-(2 ^ 62) <= j/\j < 2 ^ 62/\R (ItrH hx 0 j.toNat) H1
theorem pi_range1H {a:Expr} {ta:TA} {p pos:Pos} (hg:Gl X "range") (hm:X.mg "range"=none) (ha:PA X [a] ta) (hs:starEach [a] X.env=[(false,eval a X.env)]:=by rfl):PIH hx X tg (.Call (.Name "range" p) [a] [] pos) (iRng1H hx ta):=by
 intro pins s σ H R I h
 refine Call_ (ld_blt I hg hm boot_range (PyProof.Rows.callWith_type1 (thn (ha pos pins s σ H _ I h) fun us s1 hz52=>?_) hs rfl))
 obtain ⟨vs,H1,I1,r1,q1⟩:=hz52
 obtain ⟨j,e,q1,q2,q⟩:=q1
 subst e
 obtain ⟨u,rfl,t,rfl⟩:=r1.one
 exact call_range_1 (range_itH I1 (by omega) (by omega) q1 q2 (by simpa using q))
end
theorem lc_coreH {ax:Addr} {X:Cx} {xs:List Str} {ix:List Nat} {scope:Scope} {elt tg iter:Expr} {ifs:List Expr} {pos:Pos} {wi:TI} {g:TG} {tt:TT} {te:TE}
  (S:CompScope X xs ix scope) (hc:X.A.handled=some (.ref ax)) (hi:PIH ax X tg iter wi)
  (hg:∀ C fp s H,PG (cxC X xs ix scope C fp s H) tg g) (ht:∀ C fp s H,PTs (cxC X xs ix scope C fp s H) ifs tt) (he:∀ C fp s H,PE (cxC X xs ix scope C fp s H) elt te)
  {pins:List (Addr × Obj)} {s:Shared} {σ:St} {H:Hp} {Q:VK} (I:Inv X pins σ H s) (h:tLC xs ix wi g tt te σ H Q) {use:Option (Value->Sem Unit)} {R:Value->Shared->Prop}
  (fin:∀ (acc C:Addr) (H':Hp) (s':Shared) (m:Str->Option Value),Q (.ref acc) H'->s'.heap.Ns C m->(∀ h',Heap.SameBut C s'.heap h'->∀ tk,Inv X pins σ H' { s' with heap:=h',toks:=tk })->(X.s₀.heap.objs.size <= C/\C ≠ X.env.locals/\(∀ x c,X.env.cells.lookup x=some c->c ≠ C)/\(∀ p ∈ X.pn ++ pins,p.1 ≠ C)/\H' C=none)->compPost (model X.prog X.w) X.A X.xe use R (.ref acc) C (.ok .next) s') :
  wpAny (model X.prog X.w) X.A (eval iter X.env) (fun x s₁=>wpAny (model X.prog X.w) X.A (pyIter x) (fun it s₂=>wpAny (model X.prog X.w) X.A (newList []) (fun acc s₃=>
   wpAny (model X.prog X.w) X.A (newFunctionEnv scope X.env.globals (clF X.env scope.names []) [] X.env.qual none .none (some X.env)) (fun cenv s₄=>
    codeAny (model X.prog X.w) X.A (.compStart (.ListComp elt [⟨tg,iter,ifs,0⟩] scope pos) 0 it acc { cenv with scope:=relabel scope X.env }) (compPost (model X.prog X.w) X.A X.xe use R acc cenv.locals) s₄) X.xe s₃) X.xe s₂) X.xe s₁) X.xe s:=
 lc_coreG (Reg:=fun Y=>Y.A.handled=some (.ref ax)) S (fun Y _ _ e=>e.trans hc)
  (fun pins s σ H R I q=>thn (hi pins s σ H R I q) fun v s1 h1=>thn h1 fun itv s2 h2=>by
   obtain ⟨it,fp,tn,J,H',e,I',T,r⟩:=h2
   exact ⟨it,fp,tn,J,H',e,I',⟨T.mem,T.obj,T.keep,T.item,T.done,T.self⟩,r⟩) hg ht he I h fin
theorem ps_setLCH {ax:Addr} {X:Cx} {xs:List Str} {ix:List Nat} {scope:Scope} {elt tg iter:Expr} {ifs:List Expr} {cpos pos pos':Pos} {wi:TI} {g:TG} {tt:TT} {te:TE} {i:Nat} {x:Str}
  (hN:X.N.Nodup) (hin:X.N[i]?=some x) (hx:Loc X.env.scope x)
  (S:CompScope X xs ix scope) (hc:X.A.handled=some (.ref ax)) (hi:PIH ax X tg iter wi)
  (hg:∀ C fp s H,PG (cxC X xs ix scope C fp s H) tg g) (ht:∀ C fp s H,PTs (cxC X xs ix scope C fp s H) ifs tt) (he:∀ C fp s H,PE (cxC X xs ix scope C fp s H) elt te)
  (hsw:swapsWith (.ListComp elt [⟨tg,iter,ifs,0⟩] scope cpos) (some (.Name x pos')) pos.line X.env=pure true)
  (hf:X.fn x=true \/ X.env.scope.names.lookup x=some .local:=by first | exact .inl rfl | exact .inr rfl | assumption)
  (hs:∀ x,foldedSetIterable iter X.env x=pure x:=by intro _;rfl) :
  PS X (.Assign [.Name x pos'] (.ListComp elt [⟨tg,iter,ifs,0⟩] scope cpos) pos) (tAsg (tLC xs ix wi g tt te) (gName i)):=by
 intro pins s σ H D I h
 have hcl:∀ n,(n,NameKind.free) ∈ scope.names->(X.env.cells.lookup n).isSome=true:=fun n hn=>by
  obtain ⟨c,e⟩:=I.ok.has n (S.fre n hn)
  rw [e];rfl
 rw [exec_Assign_Name_used _ _ _ _ hsw]
 refine wpAny_bind (wpAny_standAt (wpAny_bind ?_))
 rw [arm_evalThenUse_ListComp]
 refine wpAny_bind (thn (Q:=fun _ s'=>SP X pins D .next s') (wpAny_comprehension_free (g:=⟨tg,iter,ifs,0⟩) (gs:=[]) (use:=some (assign (.Name x pos') X.env)) rfl hs (closureFor_clF hcl) S.kind S.loc ?_) fun _ s1 h1=>wpAny_pure (wpAny_pure h1))
 refine lc_coreH S hc hi hg ht he I h fun acc C H' s' m q hn k hC=>?_
 have I':Inv X pins σ H' s':=k s'.heap (Heap.SameBut.refl _ _) s'.toks
 show wpAny (model X.prog X.w) X.A (assign (.Name x pos') X.env (.ref acc)) (fun _ s''=>∃ m,s''.heap.Ns C m/\∀ h',Heap.SameBut C s''.heap h'->SP X pins D .next { s'' with heap:=h' }) X.xe s'
 refine wpAny_assign_Name (store_ok2 I' hN hin hx (v:=.ref acc) rfl (fun s'' I'' hz53=>?_) hf)
 obtain ⟨a,hsa,ha⟩:=hz53
 refine ⟨m,hn.sameBut hsa ?_,fun h' hsb=>⟨_,H',I''.letgo hsb hC,q⟩⟩
 rcases ha with rfl | ha
 ·exact hC.2.1
 ·exact fun z=>hC.2.2.1 x a ha z.symm
structure RoomH (k:Nat) (A:Around):Prop where
 dp:A.depth + 3 * k + 5 < recursionLimit
 un:A.units + 16 * k + 200 < cLine
theorem Room.toH {k:Nat} {A:Around} (r:Room k A) (o:Option Value):RoomH k (A.mark o):=⟨r.dp,r.un⟩
abbrev SpH:=Addr->List V->Hp->VK->Prop
structure FnOkH (P:Program) (w:World) (K:PySem.W.Frag) (mg:Str->Option Value) (base:Heap) (k:Nat) (f:Addr) (fd:FuncData) (ps:List Str) (sp:SpH):Prop where
 len:∀ hx vs H Q,sp hx vs H Q->vs.length=ps.length
 run:∀ (hx:Addr) (A:Around) (outer:List Env) (s:Shared) (H:Hp) (args:Args) (us:List Value) (vs:List V) (Q:VK),RoomH k A->A.handled=some (.ref hx)->Env0 P w K mg base A outer s H->BindsTo s fd args (ps.zip us)->Vals vs us->sp hx vs H Q ->
  codeAny (model P w) A (.call (.ref f) args) (CR CX0 outer P w H s Q (fun _ _ _=>False)) s
def cxH (P:Program) (w:World) (K:PySem.W.Frag) (mg:Str->Option Value) (base:Heap) (N:List Str) (qual:Str) (scope:Scope) (f:Addr) (cd:Value) (A:Around) (outer:List Env) (s:Shared) (H:Hp):Cx:=
 { cxOf CX0 P w K mg base N qual scope f cd A outer s H (fun _ _ _=>False) with calm:=false,xe:=fun _ _=>False }
theorem Fun.okH {P:Program} {w:World} {K:PySem.W.Frag} {mg:Str->Option Value} {base:Heap} {x qual:Str} {st:Stmt} {f:Addr} {fd:FuncData} {N ps:List Str} {k:Nat} {sp:SpH} (F:Fun K x qual st f fd) (S:FnScope N ps (defScope st)) (len:∀ hx vs H Q,sp hx vs H Q->vs.length=ps.length)
  (hbody:∀ (hx:Addr) (cdv:Value) (A:Around) (outer:List Env) (s:Shared) (H:Hp) (vs:List V) (Q:VK),A.handled=some (.ref hx)->sp hx vs H Q ->
   ∃ t,PSs (cxH P w K mg base N qual (defScope st) f cdv A outer s H) (defBody st) t/\t { nx:=fun _ H'=>Q .non H',rt:=Q } (start N vs) H):FnOkH P w K mg base (k + 1) f fd ps sp:=by
 obtain ⟨oc,od,kV,doc,pm,an,cdv,ct,osl,rfl,lk,hcd⟩:=F.ex
 refine ⟨len,fun hx A outer s H args us vs Q hr hh e0 hb r hsp=>?_⟩
 have hl:=len _ _ _ _ hsp
 have KX:K.In s.heap:=e0.mod.kin.keeps fun b o e=>(e0.bs b o e).1
 have lim:s.heap.NoLimit:=e0.mod.nolimit.keeps fun b o e=>(e0.bs b o e).1
 have hkind:∀ y ∈ ps.zip us,(defScope st).names.lookup y.1=some .local \/ ((defScope st).names.lookup y.1=some .cell/\((cellsFrom (s.heap.objs.size + 1) (defScope st).names []).lookup y.1).isSome=true):=fun ⟨n,v⟩ hy=>by
  rcases S.par n (List.of_mem_zip hy).1 with q | q
  ·exact .inl q
  ·exact .inr ⟨q,PySem.W.cellsFrom_some _ _ _ (.inl q)⟩
 refine codeAny_call_function (by have:=hr.dp;omega) (KX _ _ lk) rfl S.co S.gen rfl (PySem.W.codeRec_of KX hcd) (hb _ _ _ _ ?_)
 refine wpAny_newFunctionEnv_cells S.kind hkind fun env he s1 x=>?_
 subst he
 refine ⟨lim.keeps x.toInCall.keep,codeAny_func ?_⟩
 obtain ⟨t,ht,hq⟩:=hbody hx cdv A outer s H vs Q hh hsp
 have I0:Inv (cxOf CX0 P w K mg base N qual (defScope st) f cdv { A with handled:=none } outer s H (fun _ _ _=>False)) [] (start N vs) H s1:=
  inv_start S rfl ⟨e0.frames,e0.mod,e0.bs,e0.bsz,e0.funs,e0.frf,e0.hok,e0.bare⟩ hl r x
 have I:Inv (cxH P w K mg base N qual (defScope st) f cdv A outer s H) [] (start N vs) H s1:=
  ⟨⟨I0.ok.mod,I0.ok.kind,I0.ok.glob,I0.ok.blt,I0.ok.above,I0.ok.inj,I0.ok.has,I0.ok.cab,(fun z=>by cases z),I0.ok.frames,I0.ok.stk,I0.ok.exf,I0.ok.bs,I0.ok.bsz,I0.ok.noex,I0.ok.exfs,I0.ok.funs,I0.ok.frf⟩,
   I0.os,I0.bare,I0.base,I0.loc,I0.cell,I0.free,I0.freeC,I0.pin,I0.hok,I0.len⟩
 refine wpAny_mono (ht [] s1 (start N vs) H _ I hq) (fun fl s' hs=>?_) fun e s' hs=>hs.elim
 cases fl with
 | ret u=>
  obtain ⟨v,σ',H',J,rv,q⟩:=hs
  exact ⟨v,H',J.os,J.bare,J.base,J.hok,rv,q⟩
 | next=>
  obtain ⟨σ',H',J,q⟩:=hs
  exact ⟨V.non,H',J.os,J.bare,J.base,J.hok,rfl,q⟩
 | brk=>
  obtain ⟨_,_,_,q⟩:=hs
  exact q.elim
 | cont=>
  obtain ⟨_,_,_,q⟩:=hs
  exact q.elim
structure CalH (P:Program) (w:World) (K:PySem.W.Frag) (mg:Str->Option Value) (base:Heap) (k:Nat) (x:Str) (ps:List Str) (sp:SpH):Prop where
 ex:∃ (f:Addr) (fd:FuncData),FnOkH P w K mg base k f fd ps sp/\mg x=some (.ref f)/\PySem.W.keepIn K (.ref f)=true/\Binds K fd ps []
theorem FunG.okH {P:Program} {w:World} {K:PySem.W.Frag} {mg:Str->Option Value} {base:Heap} {x:Str} {st:Stmt} {N ps:List Str} {k:Nat} {sp:SpH} (G:FunG K mg x st ps) (S:FnScope N ps (defScope st)) (len:∀ hx vs H Q,sp hx vs H Q->vs.length=ps.length)
  (hbody:∀ (f hx:Addr) (cdv:Value) (A:Around) (outer:List Env) (s:Shared) (H:Hp) (vs:List V) (Q:VK),A.handled=some (.ref hx)->sp hx vs H Q ->
   ∃ t,PSs (cxH P w K mg base N x (defScope st) f cdv A outer s H) (defBody st) t/\t { nx:=fun _ H'=>Q .non H',rt:=Q } (start N vs) H):CalH P w K mg base (k + 1) x ps sp:=by
 obtain ⟨f,fd,F,hm,hb⟩:=G.ex
 exact ⟨f,fd,F.okH S len fun hx cdv A outer s H vs Q hh h=>hbody f hx cdv A outer s H vs Q hh h,hm,F.kp,hb⟩
def tCallH (hx:Addr) (sp:SpH) (t:TA):TE:=fun σ H Q=>t σ H fun vs H1=>sp hx vs H1 Q
theorem pe_calH {X:Cx} {hx:Addr} {k:Nat} {x:Str} {ps:List Str} {sp:SpH} {p pos:Pos} {e:Expr} {es:List Expr} {t:TA} (D:CalH X.prog X.w X.K X.mg X.base k x ps sp) (hr:RoomH k X.A) (hh:X.A.handled=some (.ref hx)) (ha:PA X (e :: es) t) (hg:Gl X x:=by rfl)
  (hdb:(x == ("__debug__" : Str))=false:=by decide) (he:starEach (e :: es) X.env=(false,eval e X.env) :: starEach es X.env:=by rfl) (hpl:(backTo pos (starEach es X.env)).any (·.1)=false:=by rfl) :
  PE X (.Call (.Name x p) (e :: es) [] pos) (tCallH hx sp t):=by
 obtain ⟨f,fd,F,hm,hk,hb⟩:=D.ex
 intro pins s σ H Q I h
 refine wpAny_Call_Name_kw (ld_glob I hg hm ?_ hdb)
 refine PySem.W.callWith_K (h₀:=X.base) I.ok.mod.kin hk (thn (ha pos pins s σ H _ I h) fun us s1 hz54=>?_) he hpl
 obtain ⟨vs,H1,I1,r,q⟩:=hz54
 refine ⟨I1.kIn,?_⟩
 have hl:us.length=ps.length:=by rw [<- r.length];exact F.len _ _ _ _ q
 have hb':=hb s1 us I1.kIn (by simpa using hl)
 rw [List.append_nil] at hb'
 refine wpAny_call (codeAny_mono (F.run hx X.A X.stack s1 H1 ⟨us,[]⟩ us vs Q hr hh I1.env0 hb' r q) fun r s' hq=>?_)
 cases r with
 | error e=>exact hq.elim
 | ok fl=>
  cases fl with
  | ret u=>exact I1.after hq
  | next=>exact hq.elim
  | brk=>exact hq.elim
  | cont=>exact hq.elim
theorem ps_setLC1H {ax:Addr} {X:Cx} {N:List Str} {sc:Scope} {x y:Str} {ix:List Nat} {scope:Scope} {elt iter:Expr} {ifs:List Expr} {px cpos pos pos':Pos} {wi:TI} {tt:TT} {te:TE} {i:Nat}
  (hc:X.A.handled=some (.ref ax)) (hN':X.N.Nodup) (hin:X.N[i]?=some y) (hx:Loc X.env.scope y)
  (hS:CompS N sc [x] ix scope) (hi:PIH ax X (.Name x px) iter wi)
  (ht:∀ C fp s H,PTs (cxC X [x] ix scope C fp s H) ifs tt) (he:∀ C fp s H,PE (cxC X [x] ix scope C fp s H) elt te)
  (hN:X.N=N:=by rfl) (hsc:X.env.scope=sc:=by rfl)
  (hsw:swapsWith (.ListComp elt [⟨.Name x px,iter,ifs,0⟩] scope cpos) (some (.Name y pos')) pos.line X.env=pure true:=by rfl)
  (hf:X.fn y=true \/ X.env.scope.names.lookup y=some .local:=by first | exact .inl rfl | exact .inr rfl | assumption)
  (hs:∀ x,foldedSetIterable iter X.env x=pure x:=by intro _;rfl) :
  PS X (.Assign [.Name y pos'] (.ListComp elt [⟨.Name x px,iter,ifs,0⟩] scope cpos) pos) (tAsg (tLC [x] ix wi (gName 0) tt te) (gName i)):=by
 have S:=hS.at (X:=X) hN hsc
 have hl:∀ C fp s H,(cxC X [x] ix scope C fp s H).env.scope.names.lookup x=some .local:=fun _ _ _ _=>lookup_relabel_local (S.own x (by simp))
 exact ps_setLCH hN' hin hx S hc hi (fun C fp s H=>pg_name S.nd rfl (Or.inl (hl C fp s H)) (.inr (hl C fp s H))) ht he hsw hf hs
theorem lc_rangeH {hx:Addr} {xs:List Str} {ix:List Nat} {g:TG} {tt:TT} {te:TE} {lo:Int} {n:Nat} {σ:St} {H1:Hp} {Q:VK} {acc:Addr} (hn:n < sizeLine) (Pv:Nat->List V->St->Hp->Prop)
  (h0:Pv 0 [] (stC xs ix σ) (upd H1 acc (.lst [])))
  (hacc:∀ i ys τ H,Pv i ys τ H->H acc=some (.lst ys)/\ys.length <= i)
  (hs:∀ i ys τ H,i < n->Pv i ys τ H->g (.int (lo + i)) τ H fun τ2 H2=>tt τ2 H2 fun b H3=>
   if b=true then te τ2 H3 fun y H4=>H4 acc=some (.lst ys)/\Pv (i + 1) (ys ++ [y]) τ2 (upd H4 acc (.lst (ys ++ [y]))) else Pv (i + 1) ys τ2 H3)
  (he:∀ ys τ H,Pv n ys τ H->∃ C,H hx=some (excO C hx))
  (hd:∀ ys τ H,Pv n ys τ H->Q (.ref acc) H):LCW (ItrH hx lo n) xs ix g tt te σ H1 acc Q:=
 lc_by hn (fun i=>.int (lo + i)) Pv h0 hacc (fun i _ _ _ h _=>h) (fun i _ _ _ _ _ _ _ h=>h) (fun ys τ H p=>⟨Nat.le_refl n,he ys τ H p⟩) hs hd
end L2
namespace L2
open PySem PySem.Spec PyProof.Rows
section
variable {X:Cx} {es es1:List Expr} {t t1:TA}
theorem swL {es:List Expr} {p:Pos} {t:Option Expr} {n:Nat} {env:Env}:swapsWith (.List es p) t n env=pure false:=rfl
inductive CV:Expr->V->Prop
 | str {z:Str} {j p}:CV (.Constant (.str z) j p) (.str z)
 | int {z:Int} {j p}:CV (.Constant (.int z) j p) (.int z)
 | bl {z:Bool} {j p}:CV (.Constant (.bool z) j p) (.bl z)
 | non {j p}:CV (.Constant .none j p) .non
inductive CVs:List Expr->List V->Prop
 | nil:CVs [] []
 | cons {e:Expr} {v:V} {es:List Expr} {vs:List V} (h:CV e v) (t:CVs es vs):CVs (e :: es) (v :: vs)
def tRun (vs:List V) (t:TA):TA:=fun σ H Q=>t σ H (fun xs H1=>Q (vs ++ xs) H1)
theorem pa_run0 (h:PA X es t) {cs:List Expr} {vs:List V} (h0:CVs cs vs):PA X (cs ++ es) (tRun vs t):=by
 induction h0 with
 | nil=>exact h
 | cons c _ ih=>
  cases c with
  | str=>exact pa_cons pe_str ih
  | int=>exact pa_cons pe_int ih
  | bl=>exact pa_cons pe_bl ih
  | non=>exact pa_cons pe_non ih
theorem pa_run (n:Nat) {vs:List V} (h0:CVs (es.take n) vs) (h:PA X (es.drop n) t):PA X es (tRun vs t):=by
 have z:=pa_run0 h h0
 rwa [List.take_append_drop] at z
theorem ps_setL {i:Nat} {x:Str} {pos pos' lp:Pos} (hN:X.N.Nodup) (hi:X.N[i]?=some x) (hx:Loc X.env.scope x) (hf:X.fn x=true \/ X.env.scope.names.lookup x=some .local) (h:PA X es t) :
  PS X (.Assign [.Name x pos'] (.List es lp) pos) (tAsg (tLst t) (gName i)):=ps_set hN hi hx (pe_lst h) swL hf
def tAll (vs:List V):TA:=fun _ H Q=>Q vs H
theorem pa_all {vs:List V} (h:CVs es vs):PA X es (tAll vs):=by
 have z:=pa_run0 (X:=X) pa_nil h
 have e:tRun vs tNil=tAll vs:=by
  funext σ H Q
  show Q (vs ++ []) H=Q vs H
  rw [List.append_nil]
 rwa [List.append_nil,e] at z
end
end L2
namespace L2
open PySem PySem.Spec PyProof.Rows
section
variable {X:Cx}
end
end L2
namespace L2
open PySem PySem.Spec PyProof.Rows PySem.Builtin.Str
theorem ix_same (n:Int) (L:Nat) (h:0 <= n):strSliceIndices none (some n) 1 L=strSliceIndices (some ((0:Nat):Int)) (some ((min n.toNat L:Nat):Int)) 1 L:=by
 obtain ⟨m,rfl⟩:=Int.eq_ofNat_of_zero_le h
 have n0:∀ k:Nat,¬ ((k:Nat):Int) < 0:=fun k=>Int.not_lt.mpr (Int.natCast_nonneg k)
 have l0:∀ k:Nat,max (0:Int) (k:Int)=(k:Int):=fun k=>Int.max_eq_right (Int.natCast_nonneg k)
 have cm:∀ x y:Nat,min (x:Int) (y:Int)=((min x y:Nat):Int):=fun x y=>by
  rcases Nat.le_total x y with h | h
  ·rw [Nat.min_eq_left h,Int.min_eq_left (Int.ofNat_le.mpr h)]
  ·rw [Nat.min_eq_right h,Int.min_eq_right (Int.ofNat_le.mpr h)]
 unfold strSliceIndices
 dsimp only
 rw [Int.toNat_natCast,if_neg (n0 m),if_neg (n0 0),if_neg (n0 (min m L)),if_pos (by decide),if_pos (by decide),if_pos (by decide),cm,cm,cm,l0,l0,l0,Nat.zero_min,Nat.min_assoc,Nat.min_self]
 rfl
theorem slice_len (x:Str) (n:Int) (h:0 <= n):(Txt.slice x none (some n)).length=min n.toNat x.length:=by
 have e:=ix_same n x.length h
 have p:=PySem.StrLaws.sliced_plain x (a:=0) (b:=min n.toNat x.length) (Nat.zero_le _) (Nat.min_le_right _ _)
 unfold Txt.slice
 rw [e]
 split
 ·rename_i q
  rw [PySem.StrLaws.strSliceIndices_plain (Nat.zero_le _) (Nat.min_le_right _ _)] at q
  simp at q
  omega
 ·show (List.toArray _).size=_
  rw [p]
  simp [Str.length]
def repS (x:Str) (n:Int):Str:=⟨(List.replicate n.toNat x.cps).foldl (· ++ ·) #[]⟩
theorem rep_len (a:Array Nat):∀ (n:Nat) (acc:Array Nat),((List.replicate n a).foldl (· ++ ·) acc).size=acc.size + n * a.size
 | 0,acc=>by simp
 | n + 1,acc=>by
  rw [List.replicate_succ,List.foldl_cons,rep_len a n]
  rw [Array.size_append,Nat.succ_mul]
  omega
theorem repS_len (x:Str) (n:Int):(repS x n).length=n.toNat * x.length:=by
 show ((List.replicate n.toNat x.cps).foldl (· ++ ·) #[]).size=_
 rw [rep_len]
 simp [Str.length]
def rMulS:R2:=fun x y H Q=>∃ z n,x=.str z/\y=.int n/\1 < n/\1 <= z.length/\z.length * n.toNat <= 100000/\Q (.str (repS z n)) H
theorem op_mulS {X:Cx}:OpR X (binaryOp .Mult) rMulS:=by
 intro pins s σ H x y v u Q I rx ry h
 obtain ⟨z,n,rfl,rfl,hn,hz,hl,q⟩:=h
 obtain ⟨t,rfl⟩:=rx
 obtain ⟨t',rfl⟩:=ry
 have hm:n.toNat <= 100000:=Nat.le_trans (Nat.le_mul_of_pos_left _ hz) hl
 have hz2:z.length <= 100000:=Nat.le_trans (Nat.le_mul_of_pos_right _ (by omega)) hl
 refine P.mul_str ?_ (fun _ _=>?_) (fun _ _=>?_) ?_
 ·simp;omega
 ·have:(z.length:Int) <= 100000:=by omega
  have h2:(100000:Int) <= (2 ^ 63 - 1) / n:=by
   rw [Int.le_ediv_iff_mul_le (by omega)]
   have:n <= 100000:=by omega
   omega
  omega
 ·unfold tooLong
  simp only [decide_eq_false_iff_not]
  rw [sizeLine_eq]
  omega
 ·rw [if_neg (by omega),if_neg (by simp;omega)]
  refine ⟨?_,.str (repS z n),H,I.tok _,⟨_,rfl⟩,q⟩
  show (repS z n).length <= sizeLine
  rw [repS_len,sizeLine_eq,Nat.mul_comm]
  omega
end L2
namespace L2
open PySem PySem.W
def excTab (K:Frag) (cs:List Addr) (cT:Addr):Bool:=(List.range 12).all fun i=>
 ((List.range 12).all fun j=>kitOne K (.ref (cs.getD i 0)) (.ref (cs.getD j 0)) == some (decide (i=j))) && (kitOne K (.ref (cs.getD i 0)) (.type "ValueError") == some true) && (kitOne K (.ref (cs.getD i 0)) (.ref cT) == some true) &&
  (exmOne K (.ref (cs.getD i 0)) (.ref cT) == some true) && (i == 10 || excIn K (cs.getD i 0) bmVE "ValueError.__new__")
def excOwn (K:Frag) (c:Addr):Bool:=(findIn K (.ref c) "__getattribute__" == some (some (.builtin "BaseException.__getattribute__"))) && (findIn K (.ref c) "__getattr__" == some none) && (findIn K (.ref c) "__class__" == some (some (.builtin "object.__class__"))) &&
 (mroIn K c (.type "object") == some true) && hasDictIn K c && (subIn K (.ref c) (.type "BaseException") == some true)
def excAll (K:Frag) (cs:List Addr):Bool:=(specialIn K (.builtin "object.__class__") "__get__" == some (some (.builtin "getset_descriptor.__get__"))) && (takesIn K (.builtin "object.__class__") == some true) && (List.range 12).all fun i=>excOwn K (cs.getD i 0)
section
variable {K:Frag} {cs:List Addr} {cT:Addr}
theorem tab_at (h:excTab K cs cT=true) {i:Nat} (hi:i < 12):((((∀ j,j < 12->kitOne K (.ref (cs.getD i 0)) (.ref (cs.getD j 0))=some (decide (i=j)))/\kitOne K (.ref (cs.getD i 0)) (.type "ValueError")=some true)/\kitOne K (.ref (cs.getD i 0)) (.ref cT)=some true) /\
  exmOne K (.ref (cs.getD i 0)) (.ref cT)=some true)/\(i=10 \/ excIn K (cs.getD i 0) bmVE "ValueError.__new__"=true):=by
 have q:=List.all_eq_true.mp h i (List.mem_range.mpr hi)
 simp only [Bool.and_eq_true,Bool.or_eq_true,beq_iff_eq] at q
 refine ⟨⟨⟨⟨fun j hj=>?_,q.1.1.1.2⟩,q.1.1.2⟩,q.1.2⟩,q.2⟩
 exact beq_iff_eq.mp (List.all_eq_true.mp q.1.1.1.1 j (List.mem_range.mpr hj))
theorem tab_kd (h:excTab K cs cT=true) {i j:Nat} (hi:i < 12) (hj:j < 12):kitOne K (.ref (cs.getD i 0)) (.ref (cs.getD j 0))=some (decide (i=j)):=(tab_at h hi).1.1.1.1 j hj
theorem tab_kv (h:excTab K cs cT=true) {i:Nat} (hi:i < 12):kitOne K (.ref (cs.getD i 0)) (.type "ValueError")=some true:=(tab_at h hi).1.1.1.2
theorem tab_ex (h:excTab K cs cT=true) {i:Nat} (hi:i < 12):exmOne K (.ref (cs.getD i 0)) (.ref cT)=some true:=(tab_at h hi).1.2
theorem tab_ok (h:excTab K cs cT=true) {i:Nat} (hi:i < 12) (n:i ≠ 10):excIn K (cs.getD i 0) bmVE "ValueError.__new__"=true:=(tab_at h hi).2.resolve_left n
theorem all_ek (h:excAll K cs=true) {i:Nat} (hi:i < 12):ExcK K (cs.getD i 0):=by
 unfold excAll at h
 simp only [Bool.and_eq_true,beq_iff_eq] at h
 have q:=List.all_eq_true.mp h.2 i (List.mem_range.mpr hi)
 unfold excOwn at q
 simp only [Bool.and_eq_true,beq_iff_eq] at q
 exact ⟨q.1.1.1.1.1,q.1.1.1.1.2,q.1.1.1.2,h.1.1,h.1.2,q.1.1.2,q.1.2,q.2⟩
end
end L2
namespace PySem.SeqAt
open AutoSeq1 (wpAny_loadPart')
open MeetsSeq
end PySem.SeqAt
namespace L2
open PySem PySem.Spec PyProof.Rows
section
variable {X:Cx}
end
end L2
namespace HT
open PySem PySem.Spec PyProof.Rows L2
section
variable {prog:Program} {w:World} {A:Around} {E:Value->Shared->Prop} {s:Shared}
theorem getItem_tuple_self {t sl:Addr} {items:Array Value} {vl vu:Value} {lo hi:Option Int} {Q:Value->Shared->Prop} (ht:IsTup s.heap t items)
  (hs:s.heap.IsSliceOf sl vl vu .none) (pl:IsPart vl lo) (pu:IsPart vu hi) (h1:sIx items.size 0 lo=0) (h2:sIx items.size items.size hi=items.size) (h:Q (.ref t) s):wpAny (model prog w) A (getItem (.ref t) (.ref sl)) Q E s:=by
 obtain ⟨os,hos,hcs,hds⟩:=id hs
 have hTs:s.TypeIs (.ref sl) "slice":=⟨os,hos,hcs⟩
 unfold getItem
 try with_reducible refine wpAny_holding ?_
 first | refine wpAny_bind (wpAny_pure ?_) | skip
 refine wpAny_bind (wpAny_sequenceKey ht.typeIs (by decide) (wpAny_bind ?_))
 refine wpAny_callSpecial?_slot (name:=Str.ofString "__getitem__") ht.typeIs PyProof.Rows.slot_tuple_getitem (wpAny_call_entry PyProof.Rows.slot_tuple_getitem ht.typeIs entry_tuple_getitem ?_ (args_tuple_getitem _ _))
 change wpAny _ _ (Builtin.Tuple.tupleItemsOf (.ref t) >>= _) _ _ s
 refine wpAny_bind (tupleItemsOf_ ht (wpAny_bind (wpAny_typeOf hTs ?_)))
 rw [if_pos (by decide)]
 refine wpAny_bind (sliceApplied_gen hs pl pu ?_)
 have yes:(((sIx items.size 0 lo:Nat):Int) == 0 && (1:Int) == 1 && (sIx items.size items.size hi - sIx items.size 0 lo) == items.size)=true:=by
  rw [h1,h2];simp
 show wpAny _ _ (if (((sIx items.size 0 lo:Nat):Int) == 0 && (1:Int) == 1 && (sIx items.size items.size hi - sIx items.size 0 lo) == items.size)=true then _ else _) _ _ s
 rw [if_pos yes]
 unfold Builtin.Tuple.tupleIsExact
 refine wpAny_bind ?_
 refine wpAny_bind (wpAny_typeOf ht.typeIs ?_)
 refine wpAny_pure ?_
 rw [if_pos (by decide)]
 exact wpAny_bind (wpAny_rule (wpAny_pure ⟨_,rfl,wpAny_pure h⟩))
end
end HT
namespace L2
open PySem PySem.Spec PyProof.Rows
def rSlW (K:PySem.W.Frag):V->Option Int->Option Int->Hp->VK->Prop:=fun x lo hi H Q=>∃ a xs,x=.ref a/\SqT K H a xs /\
 ((HT.sIx xs.length 0 lo=0/\HT.sIx xs.length xs.length hi=xs.length/\Q (.ref a) H) \/ (¬ (HT.sIx xs.length 0 lo=0/\HT.sIx xs.length xs.length hi=xs.length)/\∀ p,H p=none->Q (.ref p) (upd H p (.tup (cutV xs lo hi)))))
theorem sl_tupW {X:Cx}:SlR X (rSlW X.K):=by
 intro pins s σ H x v vl vu lo hi sl Q I rx hs pl pu h
 obtain ⟨a,xs,rfl,hx,h⟩:=h
 rcases h with ⟨h1,h2,q⟩ | ⟨hw,q⟩
 ·cases rx
  obtain ⟨its,r,ht,hz⟩:=I.tuple hx
  have hlen:its.toArray.size=xs.length:=by rw [List.size_toArray];exact r.length.symm
  exact ⟨"tuple",_,PyProof.Rows.slot_tuple_getitem.lookup,ht.typeIs,HT.getItem_tuple_self ht hs pl pu (by rw [hlen];exact h1) (by rw [hlen];exact h2) ⟨.ref a,H,I,rfl,q⟩⟩
 ·exact sl_tup pins s σ H _ v vl vu lo hi sl Q I rx hs pl pu ⟨a,xs,rfl,hx,hw,q⟩
end L2
namespace L2
open PySem PySem.Spec PyProof.Rows
section
variable {X:Cx} {e:Expr} {te:TE} {pos p1 p2 p3:Pos} {j1:Nat}
end
end L2
namespace L2
open PySem PySem.Spec PyProof.Rows PySem.W
section
variable {lt:Nat->Nat->Bool}
section
variable {n:Nat} (h1:1 <= n)
include h1
end
end
end L2
namespace L2
open PySem PySem.Spec PyProof.Rows PySem.W
def ltS (a b:Str):Bool:=decide (a.cps.toList < b.cps.toList)
theorem ltS_trn {a b c:Str} (h1:ltS b a=false) (h2:ltS c b=false):ltS c a=false:=KeyOrd.kle_trans (O:=strKind.toKeyOrd) (a:=a.cps.toList) (b:=b.cps.toList) (c:=c.cps.toList) h1 h2
def Asc {α:Type} (lt:α->α->Bool) (l:List α):Prop:=l.Pairwise fun a b=>lt b a=false
theorem rising_asc:∀ (l:List Str) (p:Str),risingS p l=true->Asc ltS (p :: l)
 | [],p,_=>List.pairwise_singleton _ _
 | x :: r,p,h=>by
  unfold risingS at h
  obtain ⟨h1,h2⟩:=Bool.and_eq_true_iff.mp h
  have ih:=rising_asc r x h2
  have hpx:ltS x p=false:=by
   rw [ltCps_eq] at h1
   simpa [ltS] using h1
  refine List.pairwise_cons.mpr ⟨fun y hy=>?_,ih⟩
  rcases List.mem_cons.mp hy with rfl | hy
  ·exact hpx
  ·exact ltS_trn hpx ((List.pairwise_cons.mp ih).1 y hy)
theorem sorted_asc (l:List Str) (h:sortedS l=true):Asc ltS l:=by
 cases l with
 | nil=>exact .nil
 | cons x r=>exact rising_asc r x h
theorem vals_strs:∀ {us:List Value} {ys:List Str},StrsAre us ys->Vals (ys.map V.str) us
 | _,_,.nil=>.nil
 | _,_,.cons _ _ h=>.cons ⟨_,rfl⟩ (vals_strs h)
section
variable {X:Cx}
end
section
variable {prog:Program} {w:World} {A:Around} {E:Value->Shared->Prop} {s:Shared}
end
section
variable {X:Cx} {pins:List (Addr × Obj)} {σ:St} {H:Hp} {s:Shared}
end
end L2
namespace L2
open PySem PySem.Spec PyProof.Rows PySem.W
def metS (val:Nat->Str):Nat->List Str
 | 0=>[]
 | i + 1=>if (metS val i).any (· == val i) then metS val i else metS val i ++ [val i]
theorem metS_any (val:Nat->Str) (i:Nat) (k:Str):(metS val (i + 1)).any (· == k)=((metS val i).any (· == k) || k == val i):=by
 show (if (metS val i).any (· == val i) then metS val i else metS val i ++ [val i]).any (· == k)=_
 by_cases h:(metS val i).any (· == val i)=true
 ·rw [if_pos h]
  by_cases hk:k=val i
  ·subst hk;rw [h];simp
  ·rw [show (k == val i)=false by simpa using hk,Bool.or_false]
 ·rw [if_neg h,List.any_append]
  simp only [List.any_cons,List.any_nil,Bool.or_false]
  rw [Bool.beq_comm (a:=k)]
theorem metS_len (val:Nat->Str) (i:Nat):(metS val (i + 1)).length=if (metS val i).any (· == val i) then (metS val i).length else (metS val i).length + 1:=by
 show (if (metS val i).any (· == val i) then metS val i else metS val i ++ [val i]).length=_
 split <;> simp
theorem metS_le (val:Nat->Str):∀ i,(metS val i).length <= i
 | 0=>Nat.le_refl _
 | i + 1=>by
  rw [metS_len]
  have:=metS_le val i
  split <;> omega
section
variable {prog:Program} {w:World} {A:Around} {R:Result->Shared->Prop} {I:Addr} {fp wr:List Addr} {G:Array GenState->Array GenState->Prop} {n:Nat} {P:Nat->Value->Prop} {St:Nat->Shared->Prop}
end
section
variable {prog:Program} {w:World} {A:Around} {E:Value->Shared->Prop} {s:Shared}
abbrev nSet (led:Bool):Obj:={ cls:=.type "set",dict:=none,data:=.set #[] 0 (.fresh 0 0 led) }
end
end L2
namespace L2
open PySem PySem.Spec PyProof.Rows PySem.W
def manyS (zs:List Str):Nat:=(metS (fun i=>zs.getD i Str.empty) zs.length).length
section
variable {X:Cx}
theorem strs_get {zs:List Str} {its:List Value} (r:StrsAre its zs):∀ (i:Nat) (v:Value),its.toArray[i]?=some v->∃ t,v=.str (zs.getD i Str.empty) t:=by
 induction r with
 | nil=>intro i v h;simp at h
 | cons x t r ih=>
  intro i v h
  cases i with
  | zero=>simp at h;exact ⟨t,h.symm⟩
  | succ i=>simp at h;exact ih i v (by simpa using h)
section
variable {prog:Program} {w:World} {A:Around} {E:Value->Shared->Prop} {s:Shared}
end
end
end L2
namespace L2
open PySem PySem.Spec PyProof.Rows PySem.W
def ledW (w:World):Bool:=!(w.params.followText "set-order")
section
variable {prog:Program} {w:World} {A:Around} {E:Value->Shared->Prop} {s:Shared}
def SetX (prog:Program) (w:World) (h:Heap) (S:Addr) (val:Nat->Str) (i:Nat) (led:Bool):Prop:=
 ∃ (o:Obj) (es:Array (Int × Value)) (ep:Nat) (t:SetTable),h.get? S=some o/\o.ExactSet/\o.data=.set es ep t/\ElemsOf (PySem.strKind prog w) es.toList/\(∀ k,(metS val i).any (· == k)=true ↔ ∃ e ∈ es.toList,(PySem.strKind prog w).is k e.2=true)
  /\ es.size < scanBound/\t.fits es.size=true/\es.size=(metS val i).length/\t.led=led/\(es.size=0 \/ t.plain=false)
theorem setX_stay {h h':Heap} {S:Addr} {val:Nat->Str} {i:Nat} {led:Bool} (x:SetX prog w h S val i led) (k:∀ o,h.get? S=some o->h'.get? S=some o):SetX prog w h' S val i led:=by
 obtain ⟨o,es,ep,tb,ho,q⟩:=x
 exact ⟨o,es,ep,tb,k o ho,q⟩
theorem lay_led (t:SetTable) (es:Array (Int × Value)) (h:Int) (x:Value):(layNew t es h x).2.1.led=t.led:=by
 unfold layNew
 split
 ·simp only [SetTable.orStandIn]
  split <;> rfl
 ·rfl
theorem relay_led (t:SetTable) (es:Array (Int × Value)) (n:Nat):(relayAll t es n).2.1.led=t.led/\(t.plain=false->(relayAll t es n).2.1.plain=false):=by
 unfold relayAll
 split
 ·rename_i t' order hr
  unfold SetTable.relaid SetTable.laid at hr
  cases ho:SetTable.layClean (SetTable.sizeAbove n - 1) (es.map (·.1)) with
  | none=>rw [ho] at hr;cases hr
  | some ow=>
   rw [ho] at hr
   have e:=Option.some.inj hr
   have e1:=congrArg Prod.fst e
   have l1:t'.led=t.led:=by rw [show t'=_ from e1.symm]
   have l2:t'.plain=t.plain:=by rw [show t'=_ from e1.symm]
   clear hr e e1
   dsimp only
   by_cases hc:(coversAll order es.size && t'.fits (order.filterMap (es[·]?)).size)=true
   ·rw [if_pos hc];exact ⟨l1,fun hp=>l2.trans hp⟩
   ·rw [if_neg hc];exact ⟨rfl,fun _=>rfl⟩
 ·exact ⟨rfl,fun _=>rfl⟩
theorem put_of {h:Heap} {a:Addr} {o:Obj} {es:Array (Int × Value)} {ep:Nat} {t:SetTable} (ho:h.get? a=some o) (hd:o.data=.set es ep t) (es':Array (Int × Value)) (t':SetTable):(h.update a (Obj.putSet es' t')).get? a=some { o with data:=.set es' (ep + 1) t' }:=by
 have:=Heap.get?_update_self (Obj.putSet es' t') ho (by rw [putSet_of es' t' hd];rfl)
 rw [putSet_of es' t' hd] at this
 exact this
theorem addX_tail {g:Bool->Sem Unit} (hg:∀ (b:Bool) (s₁:Shared) (Q':Unit->Shared->Prop),Q' () s₁->wpAny (model prog w) A (g b) Q' E s₁) {a:Addr} {o:Obj} {es:Array (Int × Value)} {ep:Nat} {t:SetTable} (ho:s.heap.get? a=some o) (hd:o.data=.set es ep t)
  {es1:Array (Int × Value)} {t2:SetTable} (hb1:es1.size < scanBound) (hf2:t2.fits es1.size=true) (hp2:t2.plain=false) {wasDummy:Bool} {R:Option Bool->Shared->Prop}
  (h:∀ (h':Heap) (es2:Array (Int × Value)) (ep2:Nat) (t3:SetTable),Heap.SameBut a s.heap h'->h'.get? a=some { o with data:=.set es2 ep2 t3 }->List.Perm es2.toList es1.toList->t3.fits es2.size=true->t3.led=t2.led->t3.plain=false->R (some true) { s with heap:=h' }) :
  wpAny (model prog w) A (do
    storeSet a es1 t2
    if (!wasDummy && t2.tooFull)=true then do
      g (relayAll t2 es1 (SetTable.grown es1.size)).2.2
      storeSet a (relayAll t2 es1 (SetTable.grown es1.size)).1 (relayAll t2 es1 (SetTable.grown es1.size)).2.1
      pure (some true)
     else pure (some true)) R E s:=by
 refine wpAny_bind (wpAny_storeSet_of ho hd ?_ (fits_of_scanBound hb1))
 have ho1:=put_of ho hd es1 t2
 have sb1:=Heap.SameBut.update s.heap a (Obj.putSet es1 t2)
 split
 ·have hp:=relayAll_perm t2 es1 (SetTable.grown es1.size)
  have hfr:=relayAll_fits t2 es1 (SetTable.grown es1.size)
  have hld:=relay_led t2 es1 (SetTable.grown es1.size)
  generalize relayAll t2 es1 (SetTable.grown es1.size)=Rl at hp hfr hld ⊢
  obtain ⟨es2,t3,gave2⟩:=Rl
  dsimp only at hp hfr hld ⊢
  have hsz:es2.size=es1.size:=by rw [<- Array.length_toList,hp.length_eq,Array.length_toList]
  refine wpAny_bind (hg _ _ _ ?_)
  refine wpAny_bind (wpAny_storeSet_of ho1 rfl ?_ (fits_of_scanBound (by rw [hsz];exact hb1)))
  exact wpAny_pure (h _ es2 _ t3 (sb1.trans (Heap.SameBut.update _ a _)) (put_of ho1 rfl es2 t3) hp hfr hld.1 (hld.2 hp2))
 ·exact wpAny_pure (h _ es1 _ t2 sb1 ho1 (List.Perm.refl _) hf2 rfl hp2)
theorem addX {a:Addr} {val:Nat->Str} {i:Nat} {led:Bool} {tk:Tok} {Q:Bool->Shared->Prop} (hS:SetX prog w s.heap a val i led) (hroom:(metS val i).length + 1 < scanBound)
  (h:∀ (h':Heap) (b:Bool),Heap.SameBut a s.heap h'->SetX prog w h' a val (i + 1) led->Q b { s with heap:=h' }) :
  wpAny (model prog w) A (setAddHashed a (.str (val i) tk) ((PySem.strKind prog w).hash (val i))) Q E s:=by
 obtain ⟨o,es,ep,t,ho,hex,hd,hel,hmem,hb,hf,hn,hled,hpl⟩:=hS
 have hkey:(PySem.strKind prog w).is (val i) (.str (val i) tk)=true:=strKind_is _ _ _ _
 have hsc:(Value.str (val i) tk).scannable=true:=rfl
 unfold setAddHashed setAddHashedIn
 refine wpAny_holding (wpAny_bind (wpAny_setState_of ho hd hf ?_))
 dsimp only
 rw [byScan_of hsc hb hel]
 simp only [↓reduceIte]
 unfold setAddByScan
 refine wpAny_bind ?_
 refine wpAny_bind (wpAny_rule (wpAny_bind (wpAny_setScan_of hkey ho hd hf hel ?_)))
 cases hr:List.findIdx? (fun e=>(PySem.strKind prog w).is (val i) e.2) es.toList with
 | some j=>
  dsimp only
  obtain ⟨hj,hpj,_⟩:=List.findIdx?_eq_some_iff_getElem.mp hr
  have hSk:(metS val i).any (· == val i)=true:=(hmem _).mpr ⟨es.toList[j],List.getElem_mem hj,hpj⟩
  refine wpAny_pure (wpAny_pure ?_)
  have:=h s.heap false (Heap.SameBut.refl a s.heap) ⟨o,es,ep,t,ho,hex,hd,hel,fun k'=>?_,hb,hf,by rw [metS_len,if_pos hSk];exact hn,hled,hpl⟩
  ·exact this
  ·rw [metS_any,Bool.or_eq_true,<- hmem k']
   refine ⟨fun hk=>hk.elim id fun e=>?_,.inl⟩
   rw [beq_iff_eq] at e
   rw [e];exact hSk
 | none=>
  dsimp only
  have hSk:(metS val i).any (· == val i)=false:=by
   cases hk:(metS val i).any (· == val i) with
   | false=>rfl
   | true=>
    obtain ⟨e,he,hp⟩:=(hmem (val i)).mp hk
    have:=List.findIdx?_eq_none_iff.mp hr e he
    rw [hp] at this;cases this
  have hgw:∀ (b:Bool) {s₁:Shared} {Q':Unit->Shared->Prop},Q' () s₁->wpAny (model prog w) A (match b with | true=>rule "set.scan.the-table-gave-way" | false=>pure ()) Q' E s₁:=fun b s₁ Q' hq=>by
   cases b <;> first | exact wpAny_pure hq | exact wpAny_rule hq
  have hperm:=layNew_perm t es ((PySem.strKind prog w).hash (val i)) (.str (val i) tk)
  have hfits:=layNew_fits t es ((PySem.strKind prog w).hash (val i)) (.str (val i) tk)
  have hlled:=lay_led t es ((PySem.strKind prog w).hash (val i)) (.str (val i) tk)
  generalize layNew t es ((PySem.strKind prog w).hash (val i)) (.str (val i) tk)=Ly at hperm hfits hlled ⊢
  obtain ⟨es1,t1,wasDummy,gave⟩:=Ly
  dsimp only at hperm hfits hlled ⊢
  rw [Array.toList_push] at hperm
  have hsz1:es1.size=es.size + 1:=by rw [<- Array.length_toList,hperm.length_eq,List.length_append,Array.length_toList];rfl
  have hb1:es1.size < scanBound:=by rw [hsz1,hn];exact hroom
  refine wpAny_bind (hgw _ ?_)
  have fin:∀ (t2:SetTable),t2.led=t1.led->∀ (h':Heap) (es2:Array (Int × Value)) (ep2:Nat) (t3:SetTable),Heap.SameBut a s.heap h'->h'.get? a=some { o with data:=.set es2 ep2 t3 }->List.Perm es2.toList es1.toList->t3.fits es2.size=true->t3.led=t2.led->t3.plain=false->Q true { s with heap:=h' }:=by
   intro t2 l2 h' es2 ep2 t3 sb g2 p2 f3 l3 p3
   have pall:=p2.trans hperm
   have sz2:es2.size=es1.size:=by rw [<- Array.length_toList,p2.length_eq,Array.length_toList]
   exact h h' true sb ⟨_,es2,ep2,t3,g2,hex,rfl,(hel.push hkey hsc).perm pall,fun k'=>by
    rw [metS_any]
    have:=mem_push_iff hkey hmem pall k'
    rw [<- this]
    have e:(k' == val i)=decide (k'=val i):=rfl
    rw [show (k' == val i)=decide (k'=val i) by by_cases q:k'=val i <;> simp [q]],by rw [sz2];exact hb1,f3,by rw [metS_len,if_neg (by rw [hSk];simp),sz2,hsz1,hn],by rw [l3,l2,hlled,hled],.inr p3⟩
  split
  ·refine wpAny_bind ?_
   rw [hashByValue_scannable 8 hsc]
   refine wpAny_pure ?_
   refine addX_tail (t2:={ t1 with plain:=false }) ?_ ho hd hb1 (SetTable.fits_plain_off hfits) rfl ?_
   ·intro b s₁ Q' hq;cases b <;> first | exact wpAny_pure hq | exact wpAny_rule hq
   ·intro h' es2 ep2 t3 a1 a2 a3 a4 a5 a6;dsimp only;exact wpAny_pure (fin _ rfl h' es2 ep2 t3 a1 a2 a3 a4 a5 a6)
  ·rename_i hnp
   refine wpAny_bind (wpAny_pure ?_)
   simp only [↓reduceIte]
   refine addX_tail ?_ ho hd hb1 hfits (by simpa using hnp) ?_
   ·intro b s₁ Q' hq;cases b <;> first | exact wpAny_pure hq | exact wpAny_rule hq
   ·intro h' es2 ep2 t3 a1 a2 a3 a4 a5 a6;dsimp only;exact wpAny_pure (fin _ rfl h' es2 ep2 t3 a1 a2 a3 a4 a5 a6)
end
end L2
namespace L2
open PySem PySem.Spec PyProof.Rows PySem.W
section
variable {prog:Program} {w:World} {A:Around} {R:Result->Shared->Prop} {I:Addr} {fp wr:List Addr} {G:Array GenState->Array GenState->Prop} {n:Nat} {P:Nat->Value->Prop} {St:Nat->Shared->Prop}
theorem set_turnsX {led:Bool} (W:WalksS prog w A.in1 I fp wr G n P St) (S:Addr) (hSf:S ∉ fp) (val:Nat->Str) (hval:∀ i v,P i v->∃ t,v=.str (val i) t) (hb:n + 1 < scanBound):∀ (k i:Nat) (s:Shared),n - i=k->i <= n->St i s->SetX prog w s.heap S val i led ->
  (∀ s',Moved (S :: wr) G s s'->SetX prog w s'.heap S val n led->R (.ok (.ret .none)) s')->codeAny (model prog w) A (.builtin "set.update.loop" ⟨[.ref S,.ref I],[]⟩) R s:=by
 have nw:S ∉ wr:=fun z=>hSf (W.sub _ z)
 have more:∀ b ∈ wr,b ∈ S :: wr:=fun b z=>List.mem_cons_of_mem _ z
 intro k
 induction k with
 | zero=>
  intro i s hk hi st hS hR
  obtain rfl:i=n:=by omega
  refine codeAny_builtin F.entry_set_update_loop ?_
  rw [Around.under_plainId F.plain_set_update_loop _]
  show wpAny _ A.in1 (pyNext (.ref I) >>= _) _ _ s
  exact wpAny_bind (W.done s _ _ st fun s' hm=>wpAny_pure (hR s' (hm.mono more) (setX_stay hS fun o z=>hm.heap S _ nw z)))
 | succ k ih=>
  intro i s hk hi st hS hR
  have lt:i < n:=by omega
  refine codeAny_builtin F.entry_set_update_loop ?_
  rw [Around.under_plainId F.plain_set_update_loop _]
  show wpAny _ A.in1 (pyNext (.ref I) >>= _) _ _ s
  refine wpAny_bind (W.item i s _ _ lt st fun v s' hP st' hm=>?_)
  obtain ⟨t,rfl⟩:=hval i v hP
  have hS1:SetX prog w s'.heap S val i led:=setX_stay hS fun o z=>hm.heap S _ nw z
  have room:=metS_le val i
  show wpAny _ A.in1 (holding [Value.str (val i) t] (setAdd S (.str (val i) t)) >>= _) _ _ s'
  refine wpAny_bind (wpAny_holding ?_)
  unfold setAdd
  refine wpAny_holding (wpAny_bind ((PySem.strKind prog w).pyHash (k:=val i) (strKind_is _ _ _ _) (addX (s:={ s' with toks:=s'.toks + 1 }) hS1 (by omega) fun h' bb hsb hS3=>?_)))
  refine wpAny_pure ⟨plainId_quiet F.plain_set_update_loop _,ih (i + 1) _ (by omega) lt (W.frame _ s' _ _ st' (Nat.le_succ _) fun b hb o e=>?_) hS3 fun s2 hm2 hS4=>hR s2 (Moved.trans W.gtrans ((hm.mono more).then_heap (Nat.le_succ _) fun b o hb e=>?_) hm2) hS4⟩
  ·rw [hsb.2 b (fun z:b=S=>hSf (by rw [<- z];exact hb))];exact e
  ·rw [hsb.2 b (fun z:b=S=>hb (by rw [z];exact List.mem_cons_self))];exact e
end
section
variable {prog:Program} {w:World} {A:Around} {E:Value->Shared->Prop} {s:Shared}
theorem code_set_newL (a:Value) {Q₁:Value->Shared->Prop} (h:Q₁ (.ref s.heap.objs.size) { s with heap:=s.heap.push (nSet (ledW w)) }):codeAny (model prog w) A (.call (.builtin "set.__new__") ⟨[.type "set",a],[]⟩) (wants Q₁ E) s:=by
 refine codeAny_of_tree ?_
 show wpAny _ A.in1 (do checkBuiltinCall "set.__new__" ⟨[.type "set",a],[]⟩;again (.builtin "set.__new__" ⟨[.type "set",a],[]⟩)) _ _ s
 refine wpAny_bind (wpAny_of_eq (F.newCall_set_1 a) (wpAny_pure ⟨plainId_quiet F.plain_set_new _,codeAny_builtin F.entry_set_new ?_⟩));rw [Around.under_plainId F.plain_set_new _]
 unfold Builtin.«set.__new__» Builtin.Frozenset.newClass
 have hsub:=sub_set_self
 obtain ⟨hp,g,d,tk,os⟩:=s
 dsimp only
 wp_walk
 refine wpAny_askSetting (wpAny_pure ?_)
 dsimp only
 simp only [newObj]
 refine wpAny_bind (wpAny_alloc (wpAny_pure ?_))
 exact wpAny_pure h
theorem set_textsX {l:Addr} {items:Array Value} {val:Nat->Str} {Q:Value->Shared->Prop} (hh:A.handled=none) (hl:s.heap.IsList l items) (hv:∀ (i:Nat) (v:Value),items[i]?=some v->∃ t,v=.str (val i) t) (hb:items.size + 1 < scanBound)
  (h:∀ (g:Heap) (tk:Nat),SetX prog w g s.heap.objs.size val items.size (ledW w)->(∀ b o,b < s.heap.objs.size->s.heap.get? b=some o->g.get? b=some o)->Q (.ref s.heap.objs.size) { s with heap:=g,toks:=tk }) :
  wpAny (model prog w) A (call (.type "set") [.ref l]) Q E s:=by
 obtain ⟨c,tl,hmro⟩:=F.called_set.mro
 have hmade:=F.called_set.made
 have hsub:=F.called_set.sub
 refine wpAny_call (codeAny_of_tree ?_)
 show wpAny _ _ (callAny (.type "set") _) _ _ _
 refine wpAny_pure ⟨Code.quiet_builtin _ (by decide +kernel),codeAny_builtin F.entry_type_call ?_⟩
 rw [Around.under_plain (weight_type_call_type "set" [.ref l] []) rfl]
 have h1:=F.called_set.notType
 have h2:=F.called_set.canCreate
 have hct:=F.typeCall_set_1 (.ref l)
 repeat (any_goals (first | assumption | wp_step))
 refine codeAny_mono (code_set_newL (.ref l) (E:=E) (Q₁:=fun obj s1=>obj=.ref s.heap.objs.size/\s1 = { s with heap:=s.heap.push (nSet (ledW w)) }) ⟨rfl,rfl⟩) fun r s1 hr=>?_
 cases r with
 | error e=>exact hr
 | ok fl=>
  cases fl with
  | ret obj=>
   obtain ⟨rfl,rfl⟩:=hr
   have gS:(s.heap.push (nSet (ledW w))).get? s.heap.objs.size=some (nSet (ledW w)):=Heap.get?_push_size _ rfl
   have hT:Shared.TypeIs { s with heap:=s.heap.push (nSet (ledW w)) } (.ref s.heap.objs.size) "set":=⟨_,gS,rfl⟩
   have hli:=F.called_set.init.lookup
   have hbi:=F.called_set.init.bind (.ref s.heap.objs.size)
   repeat (any_goals (first | assumption | wp_step))
   refine codeAny_mono (codeAny_call_builtin (R:=wants (fun r s2=>r=.none/\∃ g tk,s2 = { s with heap:=g,toks:=tk }/\SetX prog w g s.heap.objs.size val items.size (ledW w)/\(∀ b o,b < s.heap.objs.size->s.heap.get? b=some o->g.get? b=some o)) E)
    F.called_set.init.plain F.entry_set_init (check_set_init_1 hT ?_)) fun r2 s2 hr2=>?_
   ·obtain ⟨⟨ocls,odict,odata,oslots⟩,hol,hcl,nl,hdl⟩:=hl
    simp only at hcl hdl
    subst hcl;subst hdl
    have hol':(s.heap.push (nSet (ledW w))).get? l=some { cls:=.type "list",dict:=odict,data:=.seq items nl,slots:=oslots }:=Heap.get?_push_of_some _ hol
    have hsls:=F.sub_list_set
    have hslf:=F.sub_list_frozenset
    have hne:(Value.type "list" == Value.type "dict")=false:=by decide
    have hl1:(s.heap.push (nSet (ledW w))).IsList l items:=⟨_,hol',rfl,nl,rfl⟩
    unfold Builtin.«set.__init__» noKeywords Builtin.Frozenset.updateFrom
    generalize hPI:pyIter=PI
    wp_walk
    subst hPI
    refine wpAny_pyIter_list hl1 (wpAny_bind (wpAny_runValue ?_))
    have hlS:l < s.heap.objs.size:=Heap.lt_size hol
    have sz:(s.heap.push (nSet (ledW w))).objs.size=s.heap.objs.size + 1:=Heap.size_push _ _
    refine set_turnsX (led:=ledW w) ((Walks.list (A:=A.in1.in1.in1) (by simp [hh]) _ l (by rw [sz];exact Nat.ne_of_lt (Nat.lt_succ_of_lt hlS)) items).toS) s.heap.objs.size (by rw [sz];simp;exact Nat.ne_of_gt hlS) val hv hb (items.size - 0) 0 _ (by omega) (Nat.zero_le _) ⟨⟨_,Heap.get?_push_size _ rfl,rfl,rfl⟩,(hl1.push _)⟩ ?z0 ?zR
    case z0=>
     exact ⟨_,#[],0,.fresh 0 0 (ledW w),Heap.get?_push_of_some _ gS,⟨rfl,rfl,rfl⟩,rfl,(fun e he=>by simp at he),(fun k=>by simp [metS]),by decide,rfl,rfl,rfl,.inl rfl⟩
    case zR=>
     intro s' hm hS'
     obtain ⟨g,g',d',tk',os'⟩:=s'
     have eg:g'=s.gens:=hm.gens
     have ed:d'=s.drawn:=hm.drawn
     have eo:os'=s.os:=hm.os
     subst eg;subst ed;subst eo
     show wpAny _ _ _ _ _ _
     refine wpAny_pure ?_
     show wpAny _ _ (ret Value.none) _ _ _
     refine wpAny_pure ⟨rfl,g,tk',rfl,hS',fun b o hb e=>hm.heap b o ?_ (Heap.get?_push_of_some _ (Heap.get?_push_of_some _ e))⟩
     rw [sz];simp;exact ⟨Nat.ne_of_lt hb,Nat.ne_of_lt (Nat.lt_succ_of_lt hb)⟩
   ·cases r2 with
    | error e=>exact hr2
    | ok fl2=>
     cases fl2 with
     | ret r=>
      obtain ⟨rfl,g,tk,rfl,hS',hk'⟩:=hr2
      repeat (any_goals (first | assumption | wp_step))
      exact h _ _ hS' hk'
     | _=>exact hr2.elim
  | _=>exact hr.elim
end
end L2
namespace L2
open PySem PySem.Spec PyProof.Rows PySem.W
theorem own_si:Manifest.owners.lookup (String.ofList ['r','o','t','a','r','e','t','i','_','t','e','s'].reverse)=some Manifest.sig_set_iterator:=by kernel_rfl
theorem slot_si:Slot "set_iterator" "__next__" "set_iterator.__next__":=
 .of (owner:="set_iterator") (n:="__next__") (by rw [typeLookup_type,builtinLookup_eq_fast];kernel_rfl) (by decide +kernel) (by decide +kernel) (by decide +kernel) (by first | exact .inl (by decide +kernel) | exact .inr (by decide +kernel)) (by rw [isSubtype_type];kernel_rfl)
theorem entry_si:entryFor table "set_iterator.__next__"=some Builtin.«set_iterator.__next__»:=entryFor_of_tree (by kernel_rfl)
theorem args_si (a:Value):argsOk "set_iterator.__next__" ⟨[a],[]⟩:=by
 unfold argsOk;rw [signature?_of (id:="set_iterator.__next__") (n:=['_','_','t','x','e','n','_','_']) (o:=['r','o','t','a','r','e','t','i','_','t','e','s']) (by kernel_rfl) own_si];kernel_rfl
theorem entry_seti:entryFor table "set.__iter__"=some Builtin.«frozenset.__iter__»:=
 entryFor_alias (id':="frozenset.__iter__") (by kernel_rfl) (by first | rfl | decide +kernel | (unfold String.splitOn;simp +decide [String.splitOnAux])) (by decide +kernel) (by kernel_rfl)
theorem erasePerm {α:Type}:∀ (ws:List α) (k:Nat) (h:k < ws.length),List.Perm (ws[k] :: ws.eraseIdx k) ws:=by
 intro ws
 induction ws with
 | nil=>intro k h;exact absurd h (Nat.not_lt_zero _)
 | cons x ws ih=>
  intro k h
  cases k with
  | zero=>exact .refl _
  | succ k=>exact (List.Perm.swap _ _ _).trans ((ih k (Nat.lt_of_succ_lt_succ h)).cons x)
section
variable {prog:Program} {w:World} {A:Around} {E:Value->Shared->Prop} {s:Shared}
theorem wp_choose {src:Source} {n:Nat} {Q:Nat->Shared->Prop} (hn:n ≠ 0) (h:∀ i,i < n->Q i { s with drawn:=s.drawn.bump src }):wpAny (model prog w) A (choose src n) Q E s:=fun Γ p _=>by
 show Sem.wp _ _ (.choose src n .pure) _ _ _ _
 rw [Sem.wp_choose]
 exact ⟨hn,by simpa using h _ (Nat.mod_lt _ (Nat.pos_of_ne_zero hn))⟩
theorem wp_drawOrder:∀ (n:Nat) (xs:List Nat) (s:Shared) (Q:List Nat->Shared->Prop),xs.length=n->(∀ ys d,List.Perm ys xs->Q ys { s with drawn:=d })->wpAny (model prog w) A (drawOrder n xs) Q E s
 | 0,xs,s,Q,hl,h=>by
  have:xs=[]:=List.length_eq_zero_iff.mp hl
  subst this
  exact wpAny_pure (h [] s.drawn (List.Perm.refl _))
 | n + 1,xs,s,Q,hl,h=>by
  cases xs with
  | nil=>cases hl
  | cons x xs=>
   show wpAny _ _ (choose .order (x :: xs).length >>= _) _ _ s
   refine wpAny_bind (wp_choose (by simp) fun i hi=>?_)
   have e:(x :: xs)[i]?=some ((x :: xs)[i]):=List.getElem?_eq_getElem hi
   simp only [e]
   refine wpAny_bind (wp_drawOrder n ((x :: xs).eraseIdx i) _ _ (by rw [List.length_eraseIdx_of_lt hi,hl];rfl) fun ys d p=>wpAny_pure ?_)
   refine h _ d ((List.Perm.cons _ p).trans ?_)
   exact erasePerm _ _ hi
end
theorem pick_go {α:Type} (next:Nat->Nat):∀ (fuel k:Nat) (left:List α) (out:Array α),left.length=fuel->List.Perm (pickOrder.go next fuel k left out).toList (out.toList ++ left)
 | 0,k,left,out,hl=>by
  have:left=[]:=List.length_eq_zero_iff.mp hl
  subst this
  simp [pickOrder.go]
 | fuel + 1,k,left,out,hl=>by
  have lt:next k % left.length < left.length:=Nat.mod_lt _ (by omega)
  unfold pickOrder.go
  rw [List.getElem?_eq_getElem lt]
  simp only []
  refine (pick_go next fuel (k + 1) _ _ (by rw [List.length_eraseIdx_of_lt lt,hl];rfl)).trans ?_
  rw [Array.toList_push,List.append_assoc]
  exact List.Perm.append_left _ (erasePerm _ _ lt)
theorem pickO_perm {α:Type} (next:Nat->Nat) (xs:Array α):List.Perm (pickOrder next xs).toList xs.toList:=by
 have:=pick_go next xs.size 0 xs.toList #[] (by simp)
 simpa [pickOrder] using this
abbrev IsSI (h:Heap) (it:Addr) (first:Value) (i:Nat) (S:Addr) (n ep:Nat):Prop:=h.get? it=some { cls:=.type "set_iterator",dict:=none,data:=.fields #[first,rawInt (i:Nat),.ref S,rawInt (n:Nat),rawInt (ep:Nat)],slots:=#[] }
abbrev IsPl (h:Heap) (tp:Addr) (pl:List Nat):Prop:=h.get? tp=some { cls:=.type "tuple",data:=.seq (pl.map fun (k:Nat)=>rawInt (k:Int)).toArray }
def SMode (w:World) (h:Heap) (S tp:Addr) (es:Array (Int × Value)) (ep:Nat) (t:SetTable) (i:Nat) (first:Value) (ord:List Value):Prop:=
 (w.params.followText "set-order"=true/\first=rawInt 0/\ord=(pickOrder (w.params.setOrder S ep) es).toList.map (·.2)) \/
 (w.params.followText "set-order"=false/\t.plain=false/\1 < es.size/\∃ pl:List Nat,first=.ref tp/\IsPl h tp pl/\(∀ p ∈ pl,p < es.size)/\ord=pl.map fun p=>(es.getD p (0,.none)).2) \/
 (w.params.followText "set-order"=false/\t.led=true/\es.size <= 1/\((i=0/\first=rawInt 0) \/ (i=1/\∃ j,t.place[0]?=some j/\first=rawInt ((j + 1:Nat):Int)))/\ord=es.toList.map (·.2))
def SI (w:World) (h:Heap) (it S tp:Addr) (ord:List Value) (i:Nat):Prop:=
 ∃ (o:Obj) (es:Array (Int × Value)) (ep:Nat) (t:SetTable) (first:Value),h.get? S=some o/\o.data=.set es ep t/\t.fits es.size=true/\IsSI h it first i S es.size ep/\SMode w h S tp es ep t i first ord/\ord.length=es.size
theorem SI.at {w:World} {h h':Heap} {it S tp:Addr} {ord:List Value} {i:Nat} (x:SI w h it S tp ord i) (k:∀ b ∈ [it,S,tp],∀ o,h.get? b=some o->h'.get? b=some o):SI w h' it S tp ord i:=by
 obtain ⟨o,es,ep,t,first,hS,hd,hf,hi,md,hl⟩:=x
 refine ⟨o,es,ep,t,first,k S (by simp) _ hS,hd,hf,k it (by simp) _ hi,?_,hl⟩
 rcases md with q | ⟨a,b,c,pl,e1,e2,e3,e4⟩ | q
 ·exact .inl q
 ·exact .inr (.inl ⟨a,b,c,pl,e1,k tp (by simp) _ e2,e3,e4⟩)
 ·exact .inr (.inr q)
section
variable {prog:Program} {w:World} {A:Around} {E:Value->Shared->Prop} {s:Shared}
theorem wp_byText {Q:Bool->Shared->Prop} (h:Q (w.params.followText "set-order") s):wpAny (model prog w) A setsByText Q E s:=by
 unfold setsByText
 exact wpAny_bind (wpAny_askSetting (wpAny_pure h))
theorem wp_setNextT {S:Addr} {o:Obj} {es:Array (Int × Value)} {ep:Nat} {t:SetTable} {i:Nat} {Q:Option (Value × Nat)->Shared->Prop} (hb:w.params.followText "set-order"=true) (ho:s.heap.get? S=some o) (hd:o.data=.set es ep t) (hf:t.fits es.size=true)
  (h:Q (((pickOrder (w.params.setOrder S ep) es)[i]?).map fun e=>(e.2,0)) s):wpAny (model prog w) A (setNext S 0 i ep) Q E s:=by
 unfold setNext
 refine wpAny_bind (wpAny_setState_of ho hd hf ?_)
 dsimp only
 refine wpAny_bind (wp_byText ?_)
 rw [if_pos hb]
 simp only [bne_self_eq_false,Bool.false_eq_true,if_false]
 refine wpAny_bind ?_
 unfold setWalk
 refine wpAny_bind (wpAny_setState_of ho hd hf ?_)
 dsimp only
 refine wpAny_bind (wp_byText ?_)
 rw [if_pos hb]
 exact wpAny_bind (wpAny_askSetting (wpAny_pure (wpAny_pure h)))
theorem wp_setNextO {S:Addr} {o:Obj} {es:Array (Int × Value)} {ep:Nat} {t:SetTable} {sl i:Nat} {Q:Option (Value × Nat)->Shared->Prop} (hb:w.params.followText "set-order"=false) (ho:s.heap.get? S=some o) (hd:o.data=.set es ep t) (hf:t.fits es.size=true) (hl:t.led=true) (h1:es.size <= 1)
  (h:Q (match es[SetTable.below t.place sl]?,t.place[SetTable.below t.place sl]? with | some (_,x),some j=>some (x,j + 1) | _,_=>none) s):wpAny (model prog w) A (setNext S sl i ep) Q E s:=by
 unfold setNext
 refine wpAny_bind (wpAny_setState_of ho hd hf ?_)
 dsimp only
 refine wpAny_bind (wp_byText ?_)
 rw [if_neg (by rw [hb];simp)]
 refine wpAny_ite_split (fun hab=>absurd (show (!t.plain && decide (es.size > 1))=true from hab) (by rw [decide_eq_false (show ¬ es.size > 1 by omega)];simp)) (fun _=>?_)
 refine wpAny_bind ?_
 show wpAny _ _ (if (!t.led && !es.isEmpty)=true then _ else _) _ _ s
 rw [if_neg (by rw [hl];simp)]
 exact wpAny_pure (wpAny_pure h)
end
end L2
namespace L2
open PySem PySem.Spec PyProof.Rows PySem.W
section
variable {prog:Program} {w:World} {A:Around} {E:Value->Shared->Prop} {s:Shared}
theorem wp_setEntries {S:Addr} {o:Obj} {es:Array (Int × Value)} {ep:Nat} {t:SetTable} {Q:Array (Int × Value)->Shared->Prop} (ho:s.heap.get? S=some o) (hd:o.data=.set es ep t) (hf:t.fits es.size=true) (h:Q es s):wpAny (model prog w) A (setEntries S) Q E s:=by
 unfold setEntries
 exact wpAny_bind (wpAny_setState_of ho hd hf (wpAny_pure h))
theorem wp_setNextD {S:Addr} {o:Obj} {es:Array (Int × Value)} {ep:Nat} {t:SetTable} {p:Nat} {Q:Value->Shared->Prop} (ho:s.heap.get? S=some o) (hd:o.data=.set es ep t) (hf:t.fits es.size=true) (hp:p < es.size) (h:Q (es.getD p (0,.none)).2 s):wpAny (model prog w) A (setNextDrawn S p ep) Q E s:=by
 unfold setNextDrawn
 refine wpAny_bind (wpAny_setState_of ho hd hf ?_)
 dsimp only
 simp only [bne_self_eq_false,Bool.false_eq_true,if_false]
 have e:es[p]?=some (es.getD p (0,.none)):=by rw [Array.getD_eq_getD_getElem?,Array.getElem?_eq_getElem hp];rfl
 rw [e]
 exact wpAny_pure h
theorem below_zero (xs:Array Nat) (h:xs.size <= 1):SetTable.below xs 0=0:=by
 unfold SetTable.below
 rcases (show xs.size=0 \/ xs.size=1 by omega) with e | e
 ·rw [e];rfl
 ·rw [e];simp [SetTable.below.go]
theorem below_next (xs:Array Nat) {j:Nat} (h:xs.size=1) (hj:xs[0]?=some j):SetTable.below xs (j + 1)=1:=by
 unfold SetTable.below
 rw [h]
 have e:xs.getD 0 (j + 1)=j:=by rw [Array.getD_eq_getD_getElem?,hj];rfl
 simp [SetTable.below.go,e]
theorem si_item {it S tp:Addr} {ord:List Value} {i:Nat} {x:Value} {Q:Option Value->Shared->Prop} (X:SI w s.heap it S tp ord i) (hx:ord[i]?=some x) (ne:S ≠ it) (net:tp ≠ it)
  (q:∀ h',SI w h' it S tp ord (i + 1)->Heap.SameBut it s.heap h'->Q (some x) { s with heap:=h' }):wpAny (model prog w) A (pyNext (.ref it)) Q E s:=by
 obtain ⟨o,es,ep,t,first,hS,hd,hf,hi,md,hl⟩:=X
 have hT:s.TypeIs (.ref it) "set_iterator":=⟨_,hi,rfl⟩
 unfold pyNext
 refine wpAny_bind (wpAny_attempt (wpAny_callSpecial?_slot (name:=Str.ofString "__next__") hT slot_si (wpAny_call_entry slot_si hT entry_si ?_ (args_si _))))
 show wpAny _ _ (fieldsOf (.ref it) >>= _) _ _ s
 refine wpAny_bind (wpAny_fieldsOf hi rfl ?_)
 show wpAny _ _ (setEntries S >>= _) _ _ s
 refine wpAny_bind (wp_setEntries hS hd hf ?_)
 simp only [bne_self_eq_false,Bool.false_eq_true,if_false]
 have il:i < ord.length:=(List.getElem?_eq_some_iff.mp hx).1
 have fin:∀ (nf:Value) (h':Heap),IsSI h' it nf (i + 1) S es.size ep->Heap.SameBut it s.heap h'->SMode w h' S tp es ep t (i + 1) nf ord->Q (some x) { s with heap:=h' }:=fun nf h' h1 sb m=>q h' ⟨o,es,ep,t,nf,sb.extBut _ _ ne hS,hd,hf,h1,m,hl⟩ sb
 rcases md with ⟨b,rfl,e⟩ | ⟨b,hp,h1,pl,rfl,hpl,hlt,e⟩ | ⟨b,hld,h1,hc,e⟩
 ·show wpAny _ _ (setNext S 0 (Int.toNat (i:Int)) (Int.toNat (ep:Int)) >>= _) _ _ s
  rw [Int.toNat_natCast,Int.toNat_natCast]
  have ex:((pickOrder (w.params.setOrder S ep) es)[i]?).map (fun e:Int × Value=>(e.2,0))=some (x,0):=by
   rw [e,List.getElem?_map] at hx
   rw [<- Array.getElem?_toList]
   cases he:(pickOrder (w.params.setOrder S ep) es).toList[i]? with
   | none=>rw [he] at hx;cases hx
   | some y=>
    rw [he] at hx
    have ey:y.2=x:=Option.some.inj hx
    show some (y.2,0)=_
    rw [ey]
  refine wpAny_bind (wp_setNextT b hS hd hf ?_)
  rw [ex]
  refine wpAny_bind (wpAny_setField_rec hi (by simp) fun g1 h1 s1=>?_)
  replace h1:IsSI g1 it (rawInt 0) i S es.size ep:=h1
  refine wpAny_bind (wpAny_setField_rec h1 (by simp) fun g2 h2 s2=>?_)
  replace h2:IsSI g2 it (rawInt 0) (i + 1) S es.size ep:=h2
  exact wpAny_pure ⟨x,rfl,wpAny_pure (fin _ g2 h2 (s1.trans s2) (.inl ⟨b,rfl,e⟩))⟩
 ·show wpAny _ _ (seqItems? (.ref tp) >>= _) _ _ s
  refine wpAny_bind (wpAny_seqItems hpl rfl ?_)
  rw [e,List.getElem?_map] at hx
  cases ep0:pl[i]? with
  | none=>rw [ep0] at hx;cases hx
  | some p=>
   rw [ep0] at hx
   have ex:(es.getD p (0,.none)).2=x:=Option.some.inj hx
   have hpp:=hlt p (List.mem_of_getElem? ep0)
   have ea:(pl.map fun (k:Nat)=>rawInt (k:Int)).toArray[Int.toNat (i:Int)]?=some (rawInt (p:Int)):=by
    rw [Int.toNat_natCast,List.getElem?_toArray,List.getElem?_map,ep0];rfl
   simp only [ea]
   show wpAny _ _ (setNextDrawn S (Int.toNat (p:Int)) (Int.toNat (ep:Int)) >>= _) _ _ s
   rw [Int.toNat_natCast,Int.toNat_natCast]
   refine wpAny_bind (wp_setNextD hS hd hf hpp ?_)
   rw [ex]
   refine wpAny_bind (wpAny_setField_rec hi (by simp) fun g2 h2 s2=>?_)
   replace h2:IsSI g2 it (.ref tp) (i + 1) S es.size ep:=h2
   exact wpAny_pure ⟨x,rfl,wpAny_pure (fin _ g2 h2 s2 (.inr (.inl ⟨b,hp,h1,pl,rfl,s2.extBut _ _ net hpl,hlt,e⟩)))⟩
 ·rcases hc with ⟨rfl,rfl⟩ | ⟨rfl,_⟩
  ·have sz:es.size=1:=by omega
   have psz:t.place.size=es.size:=by
    simp only [SetTable.fits,Bool.and_eq_true,beq_iff_eq] at hf
    exact hf.1
   have p0:t.place[0]?=some (t.place.getD 0 0):=by rw [Array.getD_eq_getD_getElem?,Array.getElem?_eq_getElem (by omega)];rfl
   have e0:es[0]?=some (es.getD 0 (0,.none)):=by rw [Array.getD_eq_getD_getElem?,Array.getElem?_eq_getElem (by omega)];rfl
   have ex:(es.getD 0 (0,.none)).2=x:=by
    rw [e,List.getElem?_map,Array.getElem?_toList,e0] at hx
    exact Option.some.inj hx
   show wpAny _ _ (setNext S 0 (Int.toNat ((0:Nat):Int)) (Int.toNat (ep:Int)) >>= _) _ _ s
   rw [Int.toNat_natCast,Int.toNat_natCast]
   refine wpAny_bind (wp_setNextO b hS hd hf hld h1 ?_)
   rw [below_zero _ (by omega),e0,p0]
   generalize hy:es.getD 0 (0,.none)=y at ex
   obtain ⟨y1,y2⟩:=y
   have ex':y2=x:=ex
   subst ex'
   refine wpAny_bind (wpAny_setField_rec hi (by simp) fun g1 h1' s1=>?_)
   replace h1':IsSI g1 it (rawInt ((t.place.getD 0 0 + 1:Nat):Int)) 0 S es.size ep:=h1'
   refine wpAny_bind (wpAny_setField_rec h1' (by simp) fun g2 h2 s2=>?_)
   replace h2:IsSI g2 it (rawInt ((t.place.getD 0 0 + 1:Nat):Int)) (0 + 1) S es.size ep:=h2
   exact wpAny_pure ⟨_,rfl,wpAny_pure (fin _ g2 h2 (s1.trans s2) (.inr (.inr ⟨b,hld,h1,.inr ⟨rfl,_,p0,rfl⟩,e⟩)))⟩
  ·omega
theorem stop_raise {Qf:Fin->Shared->Prop} (hh:A.handled=none) (q:∀ h' e,(∀ b o,s.heap.get? b=some o->h'.get? b=some o)->(∃ o,h'.get? e=some o/\o.cls=.type "StopIteration")->E (.ref e) { s with heap:=h' }) :
  wpAny (model prog w) A (newExc (.type "StopIteration") [] >>= fun e=>raiseNew e) Qf E s:=by
 refine wpAny_bind ?_;simp only [newExc,newTuple]
 refine wpAny_bind (wpAny_newObj_type ?_ (by size_fits));refine wpAny_bind (m:=firstArgMember _ _) (wpAny_of_eq (a:=Value.none) (by first | rfl | (simp only [firstArgMember];rfl)) ?_)
 refine wpAny_newObj_type ?_ (by size_fits);simp only [raiseNew];refine wpAny_bind (wpAny_handled ?_)
 first | rw [show A.in1.handled=none from hh];refine wpAny_bind (wpAny_pure (wpAny_throw ?_)) | rw [hh];refine wpAny_bind (wpAny_pure (wpAny_throw ?_))
 exact q _ _ (fun b o e=>Heap.get?_push_of_some _ (Heap.get?_push_of_some _ e)) ⟨_,Heap.get?_push_size _ rfl,rfl⟩
theorem si_end {it S tp:Addr} {ord:List Value} {Q:Option Value->Shared->Prop} (hh:A.handled=none) (X:SI w s.heap it S tp ord ord.length) (q:∀ h',Heap.ExtBut it s.heap h'->Q none { s with heap:=h' }):wpAny (model prog w) A (pyNext (.ref it)) Q E s:=by
 obtain ⟨o,es,ep,t,first,hS,hd,hf,hi,md,hl⟩:=X
 have hT:s.TypeIs (.ref it) "set_iterator":=⟨_,hi,rfl⟩
 unfold pyNext
 refine wpAny_bind (wpAny_attempt (wpAny_callSpecial?_slot (name:=Str.ofString "__next__") hT slot_si (wpAny_call_entry slot_si hT entry_si ?_ (args_si _))))
 show wpAny _ _ (fieldsOf (.ref it) >>= _) _ _ s
 refine wpAny_bind (wpAny_fieldsOf hi rfl ?_)
 show wpAny _ _ (setEntries S >>= _) _ _ s
 refine wpAny_bind (wp_setEntries hS hd hf ?_)
 simp only [bne_self_eq_false,Bool.false_eq_true,if_false]
 have fin:∀ (h1 h':Heap) (x:Addr),Heap.SameBut it s.heap h1->(∀ b o,h1.get? b=some o->h'.get? b=some o)->(∃ o,h'.get? x=some o/\o.cls=.type "StopIteration")->wpAny (model prog w) A (isInstance (.ref x) (.type "StopIteration") >>= fun b=>if b=true then pure none else throw (Value.ref x)) Q E { s with heap:=h' }:=by
  rintro h1 h' x sb kp ⟨ox,hx,hc⟩
  exact wpAny_bind (wpAny_isInstance (T:="StopIteration") (b:=true) ⟨ox,hx,hc⟩ isSubtype_stop (wpAny_pure (q _ fun b o hb e=>kp b o (sb.extBut b o hb e))))
 rcases md with ⟨b,rfl,e⟩ | ⟨b,hp,h1,pl,rfl,hpl,hlt,e⟩ | ⟨b,hld,h1,hc,e⟩
 ·show wpAny _ _ (setNext S 0 (Int.toNat (ord.length:Int)) (Int.toNat (ep:Int)) >>= _) _ _ s
  rw [Int.toNat_natCast,Int.toNat_natCast]
  have ex:((pickOrder (w.params.setOrder S ep) es)[ord.length]?).map (fun e:Int × Value=>(e.2,0))=none:=by
   rw [<- Array.getElem?_toList,List.getElem?_eq_none]
   ·rfl
   ·rw [e,List.length_map];exact Nat.le_refl _
  refine wpAny_bind (wp_setNextT b hS hd hf ?_)
  rw [ex]
  refine wpAny_bind (wpAny_setField_rec hi (by simp) fun g1 h1 s1=>?_)
  exact stop_raise hh fun h' x kp hx=>fin g1 h' x s1 kp hx
 ·show wpAny _ _ (seqItems? (.ref tp) >>= _) _ _ s
  refine wpAny_bind (wpAny_seqItems hpl rfl ?_)
  have ea:(pl.map fun (k:Nat)=>rawInt (k:Int)).toArray[Int.toNat (ord.length:Int)]?=none:=by
   rw [Int.toNat_natCast,List.getElem?_toArray,List.getElem?_eq_none]
   rw [e,List.length_map,List.length_map];exact Nat.le_refl _
  simp only [ea]
  refine wpAny_bind (wpAny_setField_rec hi (by simp) fun g1 h1' s1=>?_)
  replace h1':IsSI g1 it (rawInt 0) ord.length S es.size ep:=h1'
  refine wpAny_bind (wpAny_setField_rec h1' (by simp) fun g2 h2 s2=>?_)
  exact stop_raise hh fun h' x kp hx=>fin g2 h' x (s1.trans s2) kp hx
 ·have psz:t.place.size=es.size:=by
   simp only [SetTable.fits,Bool.and_eq_true,beq_iff_eq] at hf
   exact hf.1
  have key:∃ sl:Nat,first=rawInt (sl:Int)/\es[SetTable.below t.place sl]?=none:=by
   rcases hc with ⟨h0,rfl⟩ | ⟨h0,j,hj,rfl⟩
   ·exact ⟨0,rfl,by rw [below_zero _ (by omega)];exact Array.getElem?_eq_none (by omega)⟩
   ·refine ⟨j + 1,rfl,?_⟩
    rw [below_next _ (by omega) hj]
    exact Array.getElem?_eq_none (by omega)
  obtain ⟨sl,rfl,hn⟩:=key
  show wpAny _ _ (setNext S (Int.toNat (sl:Int)) (Int.toNat (ord.length:Int)) (Int.toNat (ep:Int)) >>= _) _ _ s
  rw [Int.toNat_natCast,Int.toNat_natCast,Int.toNat_natCast]
  refine wpAny_bind (wp_setNextO b hS hd hf hld h1 ?_)
  rw [hn]
  refine wpAny_bind (wpAny_setField_rec hi (by simp) fun g1 h1 s1=>?_)
  exact stop_raise hh fun h' x kp hx=>fin g1 h' x s1 kp hx
end
end L2
namespace L2
open PySem PySem.Spec PyProof.Rows PySem.W
theorem slot_sii:Slot "set_iterator" "__iter__" "set_iterator.__iter__":=
 .of (owner:="set_iterator") (n:="__iter__") (by rw [typeLookup_type,builtinLookup_eq_fast];kernel_rfl) (by decide +kernel) (by decide +kernel) (by decide +kernel) (by first | exact .inl (by decide +kernel) | exact .inr (by decide +kernel)) (by rw [isSubtype_type];kernel_rfl)
theorem args_sii (a:Value):argsOk "set_iterator.__iter__" ⟨[a],[]⟩:=by
 unfold argsOk;rw [signature?_of (id:="set_iterator.__iter__") (n:=['_','_','r','e','t','i','_','_']) (o:=['r','o','t','a','r','e','t','i','_','t','e','s']) (by kernel_rfl) own_si];kernel_rfl
theorem entry_sii:entryFor table "set_iterator.__iter__"=some Builtin.«dict_keyiterator.__iter__»:=
 entryFor_alias (id':="dict_keyiterator.__iter__") (by kernel_rfl) (by first | rfl | decide +kernel | (unfold String.splitOn;simp +decide [String.splitOnAux])) (by decide +kernel) (by kernel_rfl)
theorem split_setlen:splitId "set.__len__"=some ("set","__len__"):=by decide +kernel
section
variable {prog:Program} {w:World} {A:Around} {E:Value->Shared->Prop} {s:Shared}
theorem walks_set (hh:A.handled=none) (it S tp:Addr) (ne:S ≠ it) (net:tp ≠ it) (ord:List Value):WalksS prog w A it [it,S,tp] [it] (fun a b=>b=a) ord.length (fun i v=>ord[i]?=some v) (fun i s=>SI w s.heap it S tp ord i) where
 sub:=fun b hb=>by rw [List.mem_singleton.mp hb];simp
 grefl:=fun _=>rfl
 gtrans:=fun a b c h1 h2=>by rw [h2,h1]
 frame:=fun i s h' tk st _ k=>SI.at st k
 item:=fun i s Q E hi st q=>by
  refine si_item st (x:=ord[i]) (List.getElem?_eq_getElem hi) ne net fun h' st' sb=>q _ _ (List.getElem?_eq_getElem hi) st' ⟨fun b o hb e=>sb.extBut b o (fun z=>hb (by rw [z];simp)) e,rfl,rfl,rfl,Nat.le_refl _⟩
 done:=fun s Q E st q=>si_end hh st fun h' eb=>q _ ⟨fun b o hb e=>eb b o (fun z=>hb (by rw [z];simp)) e,rfl,rfl,rfl,Nat.le_refl _⟩
 self:=fun i s Q E st h=>by
  obtain ⟨o,es,ep,t,first,hS,hd,hf,hi,md,hl⟩:=st
  have hT:s.TypeIs (.ref it) "set_iterator":=⟨_,hi,rfl⟩
  refine wpAny_pyIter_slot hT slot_sii (wpAny_call_entry slot_sii hT entry_sii ?_ (args_sii _))
  show wpAny _ _ (ret (.ref it)) _ _ s
  exact wpAny_pure ⟨_,rfl,"set_iterator",_,hT,slot_si.lookup,h⟩
theorem wp_iterSet {S:Addr} {o:Obj} {es:Array (Int × Value)} {ep:Nat} {t:SetTable} {Q:Value->Shared->Prop} (ho:s.heap.get? S=some o) (hex:o.ExactSet) (hd:o.data=.set es ep t) (hf:t.fits es.size=true) (hled:t.led=ledW w) (hpl:es.size=0 \/ t.plain=false) (hz:es.size <= sizeLine)
  (q:∀ (h':Heap) (d:Drawn) (it tp:Addr) (ord:List Value),(∀ b o,s.heap.get? b=some o->h'.get? b=some o)->s.heap.objs.size <= it->it < h'.objs.size->tp ≠ it->(tp=S \/ s.heap.objs.size <= tp)->SI w h' it S tp ord 0->List.Perm ord (es.toList.map (·.2))->Q (.ref it) { s with heap:=h',drawn:=d }) :
  wpAny (model prog w) A (pyIter (.ref S)) Q E s:=by
 have hT:s.TypeIs (.ref S) "set":=⟨_,ho,hex.1⟩
 have Sl:S < s.heap.objs.size:=Heap.lt_size ho
 refine wpAny_pyIter_slot hT F.slot_set_iter (wpAny_call_entry F.slot_set_iter hT entry_seti ?_ (F.args_set_iter_1 _))
 show wpAny _ _ (Builtin.Frozenset.sizeOf S >>= _) _ _ s
 unfold Builtin.Frozenset.sizeOf
 refine wpAny_bind (wpAny_bind (wp_setEntries ho hd hf (wpAny_pure ?_)))
 refine wpAny_bind ?_
 unfold setDrawn
 refine wpAny_bind (wpAny_setState_of ho hd hf ?_)
 dsimp only
 refine wpAny_bind (wp_byText (wpAny_pure ?_))
 have fin:∀ (g:Heap) (d:Drawn) (first:Value) (tp:Addr) (ord:List Value),(∀ b o,s.heap.get? b=some o->g.get? b=some o)->s.heap.objs.size <= g.objs.size->tp < g.objs.size->(tp=S \/ s.heap.objs.size <= tp)->SMode w (g.push { cls:=.type "set_iterator",data:=.fields #[first,rawInt ((0:Nat):Int),.ref S,rawInt (es.size:Int),rawInt (ep:Int)] }) S tp es ep t 0 first ord->ord.length=es.size->List.Perm ord (es.toList.map (·.2)) ->
   wpAny (model prog w) A.in1 (setEpoch S >>= fun e=>newFields "set_iterator" [first,rawInt 0,.ref S,rawInt (es.size:Int),rawInt (e:Int)] >>= fun r=>ret r) (fun fin s'=>∃ v,fin=.done (.ret v)/\∃ T' r,s'.TypeIs v T'/\typeLookup (.type T') "__next__"=pure (some r)/\Q v s') E { s with heap:=g,drawn:=d }:=by
  intro g d first tp ord kp sz htp hor md hl pm
  refine wpAny_bind (wpAny_setEpoch_of (s:={ s with heap:=g,drawn:=d }) (kp _ _ ho) hd hf ?_)
  refine wpAny_bind (wpAny_newObj_type (wpAny_pure ⟨_,rfl,"set_iterator",_,⟨_,Heap.get?_push_size _ rfl,rfl⟩,slot_si.lookup,?_⟩))
  refine q _ d _ tp ord (fun b o e=>Heap.get?_push_of_some _ (kp b o e)) sz (by rw [Heap.size_push];exact Nat.lt_succ_self _) (Nat.ne_of_lt htp) hor ⟨o,es,ep,t,first,Heap.get?_push_of_some _ (kp _ _ ho),hd,hf,Heap.get?_push_size _ rfl,md,hl⟩ pm
 refine wpAny_ite_split (fun hab=>?_) (fun hab=>?_)
 ·replace hab:(!(w.params.followText "set-order") && (!t.plain && decide (es.size > 1)))=true:=hab
  simp only [Bool.and_eq_true,Bool.not_eq_true',decide_eq_true_eq] at hab
  obtain ⟨hb,hp,h1⟩:=hab
  refine wpAny_bind (wp_drawOrder es.size (List.range es.size) _ _ (List.length_range) fun pl d pm=>?_)
  refine wpAny_bind (wpAny_newTuple (hsz:=by rw [List.length_map,pm.length_eq,List.length_range];exact hz) ?_)
  have lt:∀ p ∈ pl,p < es.size:=fun p hp=>List.mem_range.mp (pm.mem_iff.mp hp)
  have mp:List.Perm (pl.map fun p=>(es.getD p (0,.none)).2) (es.toList.map (·.2)):=by
   have e:(List.range es.size).map (fun p=>(es.getD p (0,.none)).2)=es.toList.map (·.2):=by
    refine List.ext_getElem? fun k=>?_
    rw [List.getElem?_map,List.getElem?_map,show es.toList[k]?=es[k]? from Array.getElem?_toList]
    by_cases hk:k < es.size
    ·rw [List.getElem?_range hk,Array.getElem?_eq_getElem hk,Option.map_some,Option.map_some,Array.getD_eq_getD_getElem?,Array.getElem?_eq_getElem hk];rfl
    ·rw [List.getElem?_eq_none (by rw [List.length_range];omega),Array.getElem?_eq_none (by omega)];rfl
   rw [<- e]
   exact pm.map _
  refine fin (s.heap.push { cls:=.type "tuple",data:=.seq (pl.map fun (k:Nat)=>rawInt (k:Int)).toArray }) d (.ref s.heap.objs.size) s.heap.objs.size (pl.map fun p=>(es.getD p (0,.none)).2) (fun b o e=>Heap.get?_push_of_some _ e) (by rw [Heap.size_push];exact Nat.le_succ _) (by rw [Heap.size_push];exact Nat.lt_succ_self _) (.inr (Nat.le_refl _)) (.inr (.inl ⟨hb,hp,h1,pl,rfl,Heap.get?_push_of_some _ (Heap.get?_push_size _ rfl),lt,rfl⟩)) (by rw [mp.length_eq,List.length_map,Array.length_toList]) mp
 ·refine wpAny_bind (wpAny_pure ?_)
  cases hb:w.params.followText "set-order" with
  | true=>
   have pm:=(pickO_perm (w.params.setOrder S ep) es).map (fun x:Int × Value=>x.2)
   exact fin s.heap s.drawn (rawInt 0) S _ (fun b o e=>e) (Nat.le_refl _) Sl (.inl rfl) (.inl ⟨hb,rfl,rfl⟩) (by rw [pm.length_eq,List.length_map,Array.length_toList]) pm
  | false=>
   have h1:es.size <= 1:=by
    apply Nat.le_of_not_lt
    intro h1
    refine hab ?_
    show (!(w.params.followText "set-order") && (!t.plain && decide (es.size > 1)))=true
    rw [hb,hpl.resolve_left (by omega),decide_eq_true h1];rfl
   exact fin s.heap s.drawn (rawInt 0) S _ (fun b o e=>e) (Nat.le_refl _) Sl (.inl rfl) (.inr (.inr ⟨hb,by rw [hled];unfold ledW;rw [hb];rfl,h1,.inl ⟨rfl,rfl⟩,rfl⟩)) (by rw [List.length_map,Array.length_toList]) (List.Perm.refl _)
end
end L2
namespace L2
open PySem PySem.Spec PyProof.Rows PySem.W
section
variable {prog:Program} {w:World} {A:Around} {E:Value->Shared->Prop} {s:Shared}
theorem hint_set {S:Addr} {Q:Bool->Shared->Prop} (hT:s.TypeIs (.ref S) "set") (h:Q false s):wpAny (model prog w) A (Builtin.List.listLengthHint (.ref S)) Q E s:=by
 unfold Builtin.List.listLengthHint
 refine wpAny_bind (wpAny_specialOf hT F.slot_set_len.lookup ?_)
 generalize hid:("set.__len__" : String)=id0
 wp_delta
 rw [show splitId id0=some ("set","__len__") from by subst hid;exact split_setlen]
 subst hid
 refine wpAny_bind (wpAny_isInstance (T:="set") (b:=true) hT (by rw [isSubtype_type];kernel_rfl) ?_)
 refine wpAny_ite_split (fun hab=>absurd hab (by decide)) (fun _=>?_)
 refine wpAny_ite_split (fun _=>?_) (fun hab=>absurd (by decide +kernel) hab)
 exact wpAny_bind (wpAny_typeOf hT (wpAny_pure h))
theorem collect_set (hh:A.handled=none) {S:Addr} {o:Obj} {es:Array (Int × Value)} {ep:Nat} {t:SetTable} {Q:List Value->Shared->Prop} (ho:s.heap.get? S=some o) (hex:o.ExactSet) (hd:o.data=.set es ep t) (hf:t.fits es.size=true) (hled:t.led=ledW w) (hpl:es.size=0 \/ t.plain=false) (hz:es.size < 1000)
  (q:∀ (s':Shared) (ord:List Value),(∀ b o,s.heap.get? b=some o->s'.heap.get? b=some o)->s'.gens=s.gens->s'.os=s.os->s.toks <= s'.toks->s.heap.objs.size <= s'.heap.objs.size->List.Perm ord (es.toList.map (·.2))->Q ord s'):wpAny (model prog w) A (collect (.ref S)) Q E s:=by
 have Sl:S < s.heap.objs.size:=Heap.lt_size ho
 unfold collect
 refine wpAny_bind (wpAny_runValue (codeAny_builtin F.entry_proto_collect ?_));rw [Around.under_plainId F.plain_proto_collect _]
 show wpAny _ A.in1 (newList [] >>= fun l=>again (.builtin "list.__iadd__" ⟨[l,.ref S],[]⟩)) _ _ s
 refine wpAny_bind (wpAny_newObj_type (wpAny_pure ⟨plainId_quiet F.plain_list_iadd _,codeAny_builtin F.entry_list_iadd ?_⟩));rw [Around.under_plainId F.plain_list_iadd _]
 show wpAny _ A.in1 (Builtin.List.listExtendWith (.ref s.heap.objs.size) (.ref S) (.ref s.heap.objs.size)) _ _ _
 generalize hL:s.heap.objs.size=L
 have hS1:(s.heap.push { cls:=.type "list",data:=.seq ([]:List Value).toArray }).get? L=some { cls:=.type "list",data:=.seq ([]:List Value).toArray }:=by rw [<- hL];exact Heap.get?_push_size _ rfl
 have ho1:(s.heap.push { cls:=.type "list",data:=.seq ([]:List Value).toArray }).get? S=some o:=Heap.get?_push_of_some _ ho
 have up:∀ b o,s.heap.get? b=some o->(s.heap.push { cls:=.type "list",data:=.seq ([]:List Value).toArray }).get? b=some o:=fun b o e=>Heap.get?_push_of_some _ e
 have sz1:(s.heap.push { cls:=.type "list",data:=.seq ([]:List Value).toArray }).objs.size=L + 1:=by rw [Heap.size_push,hL]
 generalize s.heap.push { cls:=.type "list",data:=.seq ([]:List Value).toArray }=g at hS1 ho1 up sz1
 have SL:L ≠ S:=by rw [<- hL];exact Nat.ne_of_gt Sl
 have hT:Shared.TypeIs { s with heap:=g } (.ref S) "set":=⟨_,ho1,hex.1⟩
 unfold Builtin.List.listExtendWith
 refine wpAny_bind (wpAny_typeOf hT ?_)
 have e1:Builtin.List.listSameRef (.ref L) (.ref S)=false:=by simp [Builtin.List.listSameRef,SL]
 have e2:(Value.type "set" == Value.type "list")=false:=by decide
 have e3:(Value.type "set" == Value.type "tuple")=false:=by decide
 simp only [e1,e2,e3,Bool.or_false,Bool.false_eq_true,if_false]
 refine wpAny_bind (wp_iterSet (s:={ s with heap:=g }) ho1 hex hd hf hled hpl (by rw [sizeLine_eq];omega) fun h' d it tp ord kp it1 it2 tpi tp2 si pm=>?_)
 have hT':Shared.TypeIs { s with heap:=h',drawn:=d } (.ref S) "set":=⟨_,kp _ _ ho1,hex.1⟩
 refine wpAny_bind (wpAny_holding (hint_set hT' ?_))
 refine wpAny_ite_split (fun _=>?_) (fun hab=>absurd (by decide +kernel) hab)
 refine wpAny_bind (wpAny_rule (wpAny_bind ?_))
 have hS2:h'.get? L=some { cls:=.type "list",data:=.seq ([]:List Value).toArray }:=kp _ _ hS1
 show wpAny _ A.in1 (updateSeq L (·.push .none) >>= fun _=>updateSeq L (·.pop)) _ _ { s with heap:=h',drawn:=d }
 refine wpAny_bind (wpAny_updateSeq hS2 rfl ?_)
 have hS3:=Heap.get?_update_self (Obj.mapSeq (·.push Value.none)) hS2 rfl
 refine wpAny_updateSeq (hz:=by seq_fits) hS3 rfl ?_
 have hS4:=Heap.get?_update_self (Obj.mapSeq (·.pop)) hS3 rfl
 have oth:∀ b o,b ≠ L->h'.get? b=some o->((h'.update L (Obj.mapSeq (·.push Value.none))).update L (Obj.mapSeq (·.pop))).get? b=some o:=fun b o hb e=>(Heap.get?_update_other _ _ (Ne.symm hb)).trans ((Heap.get?_update_other _ _ (Ne.symm hb)).trans e)
 have itL:it ≠ L:=by
  have:(s.heap.objs.size:Nat) + 1 <= it:=by rw [hL,<- sz1];exact it1
  rw [<- hL];exact Nat.ne_of_gt this
 have itS:S ≠ it:=Nat.ne_of_lt (Nat.lt_of_lt_of_le (Heap.lt_size ho1) it1)
 have ln:ord.length=es.size:=by rw [pm.length_eq,List.length_map,Array.length_toList]
 have tpL:tp ≠ L:=by
  rcases tp2 with z | z
  ·rw [z];exact Ne.symm SL
  ·intro e;rw [e] at z;rw [show ({ s with heap:=g }:Shared).heap.objs.size=L + 1 from sz1] at z;exact Nat.not_succ_le_self _ z
 have hSf:L ∉ [it,S,tp]:=by simp [Ne.symm itL,SL,Ne.symm tpL]
 have W:=walks_set (prog:=prog) (w:=w) (A:=A.in1) hh it S tp itS tpi ord
 refine wpAny_pure ⟨plainId_quiet F.plain_extend_loop _,codeAny_extend_loopS W (by rw [ln,sizeLine_eq];omega) L hSf _ ord.length 0 _ _ _ rfl (Nat.zero_le _) (si.at fun b hb o e=>oth b o (fun z=>hSf (z ▸ hb)) e) hS4 (ItemsOf.nil _) fun s' acc' c' hm hS' hacc=>?_⟩
 show wpAny _ A (load L >>= _) _ _ s'
 refine wpAny_bind (wpAny_load hS' ?_)
 have ea:acc'.toList=ord:=by
  refine List.ext_getElem? fun k=>?_
  rw [Array.getElem?_toList]
  by_cases hk:k < acc'.size
  ·rw [Array.getElem?_eq_getElem hk]
   exact (hacc.2 k _ (Array.getElem?_eq_getElem hk)).symm
  ·rw [Array.getElem?_eq_none (Nat.le_of_not_lt hk),List.getElem?_eq_none (by rw [<- hacc.1];exact Nat.le_of_not_lt hk)]
 refine wpAny_pure ?_
 show Q acc'.toList s'
 rw [ea]
 refine q s' ord (fun b o e=>?_) hm.gens hm.os hm.toks (by rw [hL];exact Nat.le_of_lt (Heap.lt_size hS')) pm
 have bl:b < L:=by rw [<- hL];exact Heap.lt_size e
 refine hm.heap b o (fun z=>?_) (oth b o (Nat.ne_of_lt bl) (kp b o (up b o e)))
 have:L + 1 <= it:=by rw [<- sz1];exact it1
 rcases List.mem_cons.mp z with z | z
 ·exact absurd bl (by rw [z];exact Nat.lt_irrefl _)
 ·rw [List.mem_singleton.mp z] at bl
  exact absurd (Nat.lt_of_lt_of_le bl (Nat.le_of_succ_le this)) (Nat.lt_irrefl _)
end
end L2
namespace L2
open PySem PySem.Spec PyProof.Rows PySem.W
section
variable {prog:Program} {w:World} {A:Around} {E:Value->Shared->Prop} {s:Shared}
theorem sorted_set (hh:A.handled=none) {S:Addr} {o:Obj} {es:Array (Int × Value)} {ep:Nat} {t:SetTable} {ss:List Str} {Q:Value->Shared->Prop} (ho:s.heap.get? S=some o) (hex:o.ExactSet) (hd:o.data=.set es ep t) (hf:t.fits es.size=true) (hled:t.led=ledW w) (hpl:es.size=0 \/ t.plain=false) (hz:es.size < 64) (hS:StrsAre (es.toList.map (·.2)) ss)
  (q:∀ (h':Heap) (d:Drawn) (tk:Nat) (p:Addr) (e:Nat) (out:List Value) (ss':List Str),(∀ b o,s.heap.get? b=some o->h'.get? b=some o)->s.heap.objs.size <= p->h'.get? p=some (seqObj "list" out.toArray e)->StrsAre out ss'->ss'.Perm ss->sortedS ss'=true->Q (.ref p) { s with heap:=h',drawn:=d,toks:=tk }) :
  wpAny (model prog w) A (call (.builtin "sorted") [.ref S]) Q E s:=by
 refine Calls.call_function_entry kind_sorted plain_sorted entry_sorted (args_sorted1 _) ?_
 unfold Builtin.«sorted»
 refine wpAny_bind (m:=checkCount "sorted" 1 1 _) (wpAny_pure ?_)
 refine wpAny_bind (collect_set (A:=A.in1) hh ho hex hd hf hled hpl (by omega) fun s' ord k hg hos htk hsz pm=>?_)
 have hl:ord.length=es.size:=by rw [pm.length_eq,List.length_map,Array.length_toList]
 obtain ⟨sy,hy,py⟩:∃ sy,StrsAre ord sy/\sy.Perm ss:=by
  refine ⟨ord.map strOf,strsAre_map ord (fun v hv=>hS.all v (pm.mem_iff.mp hv)),?_⟩
  have:=pm.map strOf
  rwa [hS.strs] at this
 refine wpAny_bind (wpAny_newList (hsz:=by rw [hl,sizeLine_eq];omega) ?_)
 have hoL:(s'.heap.push (seqObj "list" ord.toArray 0)).get? s'.heap.objs.size=some (seqObj "list" ord.toArray 0):=Heap.get?_push_size _ rfl
 show wpAny _ _ _ _ _ { s' with heap:=s'.heap.push (seqObj "list" ord.toArray 0) }
 refine wpAny_bind (wpAny_holding (wpAny_call_entry slot_list_sort ⟨_,hoL,rfl⟩ entry_list_sort (list_sort_treeK strKind_oneLt hoL hy.keysOf (fun v₁ v₂ rest e=>keyKind_strs (by rw [<- e];exact hy)) (by omega) fun st' a1 a2=>⟨_,rfl,?_⟩) (args_list_sort _)))
 obtain ⟨ss',h1,h2,h3⟩:=sorted_out_str hy a1 a2
 refine wpAny_pure ⟨_,rfl,?_⟩
 obtain ⟨e,he⟩:=sortedHeap_at (vs:=ord) (out:=(arrOf st').map (·.2)) hoL
 have:=q (sortedHeap (s'.heap.push (seqObj "list" ord.toArray 0)) s'.heap.objs.size ord ((arrOf st').map (·.2))) s'.drawn s'.toks s'.heap.objs.size e ((arrOf st').map (·.2)).toList ss' (fun b o z=>?_) hsz (by rw [Array.toArray_toList];exact he) h1 (h2.trans py) h3
 ·rw [<- hg,<- hos] at this
  exact this
 ·have hb:=k b o z
  have hlt:b < s'.heap.objs.size:=Heap.lt_size hb
  rw [sortedHeap_old (Nat.ne_of_lt hlt) (by rw [size_push'];exact Nat.lt_succ_of_lt hlt),Heap.get?_push_ne _ _ _ (Nat.ne_of_lt hlt)]
  exact hb
end
theorem Inv.anyDrawn {X:Cx} {pins:List (Addr × Obj)} {σ:List (Option V)} {H:Hp} {s:Shared} (d:Drawn) (I:Inv X pins σ H s):Inv X pins σ H { s with drawn:=d }:=
 ⟨I.ok,I.os,I.bare,I.base,I.loc,I.cell,I.free,I.freeC,I.pin,I.hok,I.len⟩
theorem metS_in (val:Nat->Str) (k:Str):∀ i,(metS val i).any (· == k)=true ↔ ∃ j,j < i/\val j=k
 | 0=>⟨fun h=>(by cases h),fun ⟨j,h,_⟩=>absurd h (Nat.not_lt_zero _)⟩
 | i + 1=>by
  rw [metS_any,Bool.or_eq_true,metS_in val k i]
  constructor
  ·rintro (⟨j,h,e⟩ | h)
   ·exact ⟨j,Nat.lt_succ_of_lt h,e⟩
   ·exact ⟨i,Nat.lt_succ_self _,(eq_of_beq h).symm⟩
  ·rintro ⟨j,h,e⟩
   rcases Nat.lt_or_ge j i with hj | hj
   ·exact .inl ⟨j,hj,e⟩
   ·have:j=i:=Nat.le_antisymm (Nat.le_of_lt_succ h) hj
    subst this
    exact .inr (by rw [e];exact beq_self_eq_true k)
def setXO (P:Program) (w:World) (a:Addr) (zs:List Str):HO:=.ext fun h=>SetX P w h a (fun i=>zs.getD i Str.empty) zs.length (ledW w)
section
variable {X:Cx}
theorem call_setX (hc:X.calm=true):CallR X (.type "set") (fun xs H Q=>∃ (a:Addr) (zs:List Str),xs=[.ref a]/\H a=some (.lst (zs.map V.str))/\zs.length < 1000/\∀ p,H p=none->Q (.ref p) (upd H p (setXO X.prog X.w p zs))):=by
 intro pins s σ H xs us Q I r h
 obtain ⟨a,zs,rfl,hA,hz,q⟩:=h
 obtain ⟨u,rfl,rx⟩:=vals1 r
 cases rx
 obtain ⟨its,r',pl,hzl⟩:=I.list (.of hA)
 have hst:=strs_of r'
 have hl:its.length=zs.length:=by have:=r'.length;rw [List.length_map] at this;exact this.symm
 have hsz:its.toArray.size=zs.length:=by rw [List.size_toArray];exact hl
 refine set_textsX (I.ok.hd hc) pl.isList (strs_get hst) (by rw [hsz];unfold scanBound;omega) fun g tk hS old=>?_
 rw [hsz] at hS
 have k:∀ b o,s.heap.get? b=some o->g.get? b=some o:=fun b o z=>old b o (Heap.lt_size z) z
 refine ⟨.ref s.heap.objs.size,_,I.laid (t':=tk) (h':=g) (o:=setXO X.prog X.w s.heap.objs.size zs) k (Nat.le_refl _) ⟨hS,?_,fun h1 h2 x st=>setX_stay x st⟩,rfl,q _ (I.hok.fresh (Nat.le_refl _))⟩
 obtain ⟨o,_,_,_,ho,_⟩:=hS
 exact ⟨o,ho⟩
theorem call_sortedX (hc:X.calm=true):CallR X (.builtin "sorted") (fun xs H Q=>∃ (p:Addr) (zs:List Str),xs=[.ref p]/\H p=some (setXO X.prog X.w p zs)/\zs.length < 64 /\
  ∀ (l:Addr) (ys:List Str),H l=none->(∀ y,y ∈ ys ↔ y ∈ zs)->ys.length=manyS zs->Asc ltS ys->Q (.ref l) (upd H l (.lst (ys.map V.str)))):=by
 intro pins s σ H xs us Q I r h
 obtain ⟨p,zs,rfl,hP,hz,q⟩:=h
 obtain ⟨u,rfl,rx⟩:=vals1 r
 cases rx
 obtain ⟨hS,_,_⟩:=I.hok p _ hP
 obtain ⟨o,es,ep,t,ho,hex,hd,hel,hmem,hb,hf,hn,hled,hpl⟩:=hS
 have le:=metS_le (fun i=>zs.getD i Str.empty) zs.length
 have en:es.size=manyS zs:=hn
 have hsh:∀ v ∈ es.toList.map (·.2),∃ x t,v=.str x t:=by
  intro v hv
  obtain ⟨e,he,rfl⟩:=List.mem_map.mp hv
  obtain ⟨⟨k,hk,_⟩,_⟩:=hel e he
  obtain ⟨t,q⟩:=Value.isStrOf_shape hk
  exact ⟨k,t,q⟩
 have hst:=strsAre_map (es.toList.map (·.2)) hsh
 refine sorted_set (I.ok.hd hc) ho hex hd hf hled hpl (by rw [hn];omega) hst fun h' d tk l e out ss k hl hat hss pm so=>?_
 have ls:ss.length=es.size:=by rw [pm.length_eq,List.length_map,List.length_map,Array.length_toList]
 have J:=(I.laid (a:=l) (t':=tk) (h':=h') (o:=.lst (ss.map V.str)) k hl ⟨by rw [List.length_map,ls,sizeLine_eq];omega,out,e,vals_strs hss,hat⟩).anyDrawn d
 refine ⟨.ref l,_,J,rfl,q l ss (I.hok.fresh hl) (fun y=>?_) (ls.trans en) (sorted_asc _ so)⟩
 have h1:y ∈ ss ↔ ∃ e ∈ es.toList,(PySem.strKind X.prog X.w).is y e.2=true:=by
  rw [pm.mem_iff,List.map_map,List.mem_map]
  constructor
  ·rintro ⟨e,he,q⟩
   obtain ⟨x,t,ex⟩:=hsh e.2 (List.mem_map.mpr ⟨e,he,rfl⟩)
   refine ⟨e,he,?_⟩
   show Value.isStrOf y e.2=true
   have:strOf e.2=y:=q
   rw [ex] at this ⊢
   rw [show x=y from this]
   exact beq_self_eq_true y
  ·rintro ⟨e,he,q⟩
   obtain ⟨t,ex⟩:=Value.isStrOf_shape q
   exact ⟨e,he,by show strOf e.2=y;rw [ex];rfl⟩
 rw [h1,<- hmem y,metS_in]
 constructor
 ·rintro ⟨j,hj,q⟩
  rw [<- q,List.getD_eq_getElem?_getD,List.getElem?_eq_getElem hj]
  exact List.getElem_mem hj
 ·intro hy
  obtain ⟨j,hj,q⟩:=List.getElem_of_mem hy
  exact ⟨j,hj,by rw [List.getD_eq_getElem?_getD,List.getElem?_eq_getElem hj];exact q⟩
end
end L2
namespace K15
open PySem L2
def top (i:Nat):Stmt:=PySem.Challenge.pw_treeright_k15_refused_at_all_doors.main.body.getD i (.Pass ⟨0,0,0,0⟩)
abbrev sName:Stmt:=top 18
abbrev sChkA:Stmt:=top 20
abbrev sInit:Stmt:=inClass (top 22) 0
abbrev sArrow:Stmt:=inClass (top 22) 1
abbrev sRow:Stmt:=inClass (top 22) 2
abbrev sInside:Stmt:=inClass (top 22) 3
abbrev sHas:Stmt:=inClass (top 22) 4
abbrev sWant:Stmt:=inClass (top 22) 10
abbrev sLeave:Stmt:=inClass (top 22) 11
abbrev sDone:Stmt:=inClass (top 22) 12
abbrev sMove:Stmt:=inClass (top 22) 15
abbrev sServe:Stmt:=inClass (top 22) 16
def flds (a:V) (wl:Addr) (h:V) (k:Bool):List (Str × V):=[("pointer",a),("waiting",.ref wl),("holder",h),("asked",.bl k)]
theorem n1:¬ (("pointer" : Str)="holder"):=by decide +kernel
theorem n2:¬ (("waiting" : Str)="holder"):=by decide +kernel
theorem n3:¬ (("pointer" : Str)="asked"):=by decide +kernel
theorem n4:¬ (("waiting" : Str)="asked"):=by decide +kernel
theorem n5:¬ (("holder" : Str)="asked"):=by decide +kernel
theorem n6:¬ (("pointer" : Str)="waiting"):=by decide +kernel
theorem put_p (a b:V) (wl:Addr) (h:V) (k:Bool):putF "pointer" b (flds a wl h k)=flds b wl h k:=by
 unfold flds;rw [putF,if_pos rfl]
theorem put_h (a:V) (wl:Addr) (h g:V) (k:Bool):putF "holder" g (flds a wl h k)=flds a wl g k:=by
 unfold flds;rw [putF,if_neg n1,putF,if_neg n2,putF,if_pos rfl]
theorem put_k (a:V) (wl:Addr) (h:V) (k j:Bool):putF "asked" (.bl j) (flds a wl h k)=flds a wl h j:=by
 unfold flds;rw [putF,if_neg n3,putF,if_neg n4,putF,if_neg n5,putF,if_pos rfl]
theorem fl_p (a:V) (wl:Addr) (h:V) (k:Bool):(flds a wl h k).lookup ("pointer" : Str)=some a:=rfl
theorem fl_w (a:V) (wl:Addr) (h:V) (k:Bool):(flds a wl h k).lookup ("waiting" : Str)=some (.ref wl):=rfl
theorem fl_h (a:V) (wl:Addr) (h:V) (k:Bool):(flds a wl h k).lookup ("holder" : Str)=some h:=rfl
theorem fl_k (a:V) (wl:Addr) (h:V) (k:Bool):(flds a wl h k).lookup ("asked" : Str)=some (.bl k):=rfl
def optV:Option Str->V
 | none=>.non
 | some z=>.str z
structure SeatT (K:PySem.W.Frag) (C:Addr):Prop where
 cl:Cls K C
 nP:NoAttr K C "pointer"
 nW:NoAttr K C "waiting"
 nH:NoAttr K C "holder"
 nA:NoAttr K C "asked"
structure SS where
 ptr:Option Str
 row:List (Str × Str)
 hold:Option Str
 asked:Bool
def rowV (r:Str × Str):List V:=[.str r.1,.str r.2]
structure SeatAt (C:Addr) (H:Hp) (p wl:Addr) (s:SS):Prop where
 ob:∃ dx,H p=some (.ins C dx (flds (optV s.ptr) wl (optV s.hold) s.asked))
 rw:Rows H wl (s.row.map rowV)
 len:s.row.length <= 1000
theorem rowV_flat (l:List (Str × Str)):∀ r ∈ l.map rowV,r.all flatV=true:=fun r hr=>by
 obtain ⟨x,_,rfl⟩:=List.mem_map.mp hr
 rfl
theorem SeatAt.ne {C:Addr} {H:Hp} {p wl:Addr} {s:SS} (S:SeatAt C H p wl s):p ≠ wl:=by
 obtain ⟨dx,h⟩:=S.ob
 obtain ⟨ps,h2,_⟩:=S.rw
 exact ne_of h h2 (by intro z;cases z)
theorem SeatAt.keep {C:Addr} {H H':Hp} {p wl:Addr} {s:SS} (S:SeatAt C H p wl s) (k:Keep [] H H'):SeatAt C H' p wl s:=by
 obtain ⟨⟨dx,h⟩,r,l⟩:=S
 exact ⟨⟨dx,k _ _ (by simp) h⟩,r.keep k,l⟩
def serveF (s:SS):SS × List V:=match s.row with
 | []=>(s,[])
 | (k,n) :: rest=>if k="asker" then ({ s with row:=rest,hold:=some n },[.str "given",.str n])
  else ({ s with ptr:=some n,row:=rest,asked:=!rest.isEmpty },[.str "right",.str n,.bl (!rest.isEmpty)])
def moveF (s:SS):SS × List (List V):=
 if s.row.isEmpty then (s,[]) else
 match s.ptr with
 | none=>match s.hold with
  | none=>((serveF s).1,[(serveF s).2])
  | some _=>(s,[])
 | some q=>if s.asked then (s,[]) else ({ s with asked:=true },[[.str "ask",.str q]])
theorem paired_keep {S:List Addr} {H H':Hp} (k:Keep S H H') (n:∀ b ∈ S,∀ xs,H b ≠ some (.tup xs)) {ps:List Addr} {rows:List (List V)} (h:Paired (fun q r=>H q=some (.tup r)) ps rows):Paired (fun q r=>H' q=some (.tup r)) ps rows:=by
 induction h with
 | nil=>exact .nil
 | cons e _ ih=>exact .cons (k _ _ (fun z=>n _ z _ e) e) ih
theorem no_tup {C dx p wl:Addr} {H:Hp} {fs:List (Str × V)} {ys:List V} (h1:H p=some (.ins C dx fs)) (h2:H wl=some (.lst ys)):∀ b ∈ [p,wl],∀ xs,H b ≠ some (.tup xs):=fun b hb xs z=>by
 simp only [List.mem_cons,List.not_mem_nil,or_false] at hb
 rcases hb with rfl | rfl
 ·rw [h1] at z;cases z
 ·rw [h2] at z;cases z
theorem seq0 (n:Nat):seqIndex? 0 (n + 1)=some 0:=by
 unfold seqIndex?
 simp
section
variable {P:Program} {w:World} {K:PySem.W.Frag} {mg:Str->Option Value} {base:Heap} {C:Addr}
theorem scServe:FnScope ["self","kind","name","back"] ["self"] (defScope sServe):=⟨rfl,rfl,rfl,by decide +kernel,rfl,by decide +kernel,by decide +kernel⟩
def spServe (C:Addr):Sp:=fun vs H Q _=>∃ (p wl:Addr) (s:SS),vs=[.ref p]/\SeatAt C H p wl s/\s.row ≠ [] /\
 ∀ (r:Addr) (H':Hp),SeatAt C H' p wl (serveF s).1->H' r=some (.tup (serveF s).2)->H r=none->Keep [p,wl] H H'->Q (.ref r) H'
theorem okServe (T:SeatT K C) (G:MthG K C "serve_first" "Seat.serve_first" sServe ["self"]) (bL:Blt mg "len"):MCal P w K mg base CX0 1 C "serve_first" ["self"] (spServe C):=by
 refine G.ok scServe (fun vs H Q E h=>by obtain ⟨p,wl,s,rfl,_⟩:=h;rfl) (fun f cdv A outer s0 H vs Q E hr h=>?_)
 obtain ⟨p,wl,s,rfl,S,hne,q⟩:=h
 refine ⟨_,(pss_cons (ps_asg (pe_bm PySem.F.plainAttrs_list PySem.F.slot_list_pop PySem.F.type_list_pop mt_popAt (pe_fld (pv 0) rfl) (pa_cons pe_int pa_nil)) (pg_tup rfl (pgs_cons (pg_name (i:=1) scServe.nd rfl (Or.inl rfl)) (pgs_cons (pg_name (i:=2) scServe.nd rfl (Or.inl rfl)) pgs_nil))))
   (pss_cons (ps_if (pt_cmpR op_eq (pv 1) pe_str (nomark _)) (pss_cons (ps_fld (pv 0) (pv 2) rfl)
   (pss_one (ps_ret (pe_tup (pa_cons pe_str (pa_cons (pv 2) pa_nil)))))) pss_nil)
   (pss_cons (ps_set (i:=3) scServe.nd rfl (Or.inl rfl) (pe_cmpR op_gt (pe_blt call_len bL bo_len (pa_cons (pe_fld (pv 0) rfl) pa_nil)) pe_int (nomark _)))
   (pss_cons (ps_fld (pv 0) (pv 2) rfl)
   (pss_cons (ps_fld (pv 0) (pv 3) rfl)
   (pss_one (ps_ret (pe_tup (pa_cons pe_str (pa_cons (pv 2) (pa_cons (pv 3) pa_nil))))))))))),?_⟩
 have npw:=S.ne
 obtain ⟨⟨dx,hob⟩,⟨ps,hwl,hpr⟩,hlen⟩:=S
 obtain ⟨ptr,row,hold,asked⟩:=s
 dsimp only at *
 cases row with
 | nil=>exact absurd rfl hne
 | cons kn rest=>
  obtain ⟨k,n⟩:=kn
  cases hpr with
  | @cons t _ ps' _ ht hpr=>
  refine ⟨_,rfl,p,C,dx,_,_,rfl,hob,T.cl,T.nW,fl_w _ _ _ _,.inl ⟨rfl,_,.of hwl⟩,wl,_,0,0,.ref t,rfl,rfl,hwl,by decide,by decide,seq0 _,rfl,?_⟩
  rw [show (List.map V.ref (t :: ps')).eraseIdx 0=ps'.map V.ref from rfl]
  have ntw:t ≠ wl:=ne_of ht hwl (by intro z;cases z)
  have lps:=paired_len hpr
  rw [List.length_map] at lps
  have hl1:rest.length + 1 <= 1000:=hlen
  have hp1:∀ o,upd H wl o p=some (.ins C dx (flds (optV ptr) wl (optV hold) asked)):=fun o=>by rw [upd_ne npw];exact hob
  refine ⟨t,_,rfl,.of (by rw [upd_ne ntw];exact ht),rfl,_,_,rfl,_,_,rfl,rfl,?_⟩
  refine ⟨_,rfl,rfl,_,rfl,?_⟩
  refine ite2 (fun hk=>?_) (fun hk=>?_)
  ·have hk':k="asker":=by have:=of_decide_eq_true hk;injection this
   refine ⟨_,rfl,_,rfl,p,C,dx,_,rfl,hp1 _,T.cl,T.nH,by show 4 < 1000;decide,_,rfl,by show 2 <= sizeLine;decide,fun r hr=>?_⟩
   rw [put_h] at hr ⊢
   obtain ⟨hr1,rp⟩:=upd_none hr
   obtain ⟨hr2,rw_⟩:=upd_none hr1
   have kk:Keep [p,wl] H (upd (upd (upd H wl (.lst (ps'.map V.ref))) p (.ins C dx (flds (optV ptr) wl (.str n) asked))) r (.tup [.str "given",.str n])):=((Keep.at (by simp)).trans (Keep.at (by simp))).trans (Keep.new hr)
   have es:serveF { ptr:=ptr,row:=(k,n) :: rest,hold:=hold,asked:=asked }=({ ptr:=ptr,row:=rest,hold:=some n,asked:=asked },[.str "given",.str n]):=by
    unfold serveF;simp only [hk',if_true]
   rw [es] at q
   refine q r _ ⟨⟨dx,?_⟩,⟨ps',?_,paired_keep kk (no_tup hob hwl) hpr⟩,?_⟩ upd_same hr2 kk
   ·rw [upd_ne (Ne.symm rp),upd_same];rfl
   ·rw [upd_ne (Ne.symm rw_),upd_ne (Ne.symm npw),upd_same]
   ·show rest.length <= 1000;omega
  ·have hk':¬ k="asker":=fun z=>hk (by rw [z];exact decide_eq_true rfl)
   refine ⟨_,rfl,p,C,dx,_,_,rfl,hp1 _,T.cl,T.nW,fl_w _ _ _ _,_,_,rfl,.inl ⟨_,.of upd_same,rfl⟩,_,_,rfl,rfl,?_⟩
   have eb:decide ((0:Int) < (((ps'.map V.ref).length:Nat):Int)) = !rest.isEmpty:=by
    rw [List.length_map,lps]
    cases rest with
    | nil=>rfl
    | cons x y=>exact decide_eq_true (by simp)
   refine ⟨_,rfl,_,rfl,p,C,dx,_,rfl,hp1 _,T.cl,T.nP,by show 4 < 1000;decide,?_⟩
   rw [put_p]
   refine ⟨_,rfl,_,rfl,p,C,dx,_,rfl,upd_same,T.cl,T.nA,by show 4 < 1000;decide,?_⟩
   dsimp only
   rw [put_k,upd_upd,eb]
   refine ⟨_,rfl,_,rfl,by show 3 <= sizeLine;decide,fun r hr=>?_⟩
   obtain ⟨hr1,rp⟩:=upd_none hr
   obtain ⟨hr2,rw_⟩:=upd_none hr1
   have kk:Keep [p,wl] H (upd (upd (upd H wl (.lst (ps'.map V.ref))) p (.ins C dx (flds (.str n) wl (optV hold) (!rest.isEmpty)))) r (.tup [.str "right",.str n,.bl (!rest.isEmpty)])):=((Keep.at (by simp)).trans (Keep.at (by simp))).trans (Keep.new hr)
   have es:serveF { ptr:=ptr,row:=(k,n) :: rest,hold:=hold,asked:=asked }=({ ptr:=some n,row:=rest,hold:=hold,asked:=!rest.isEmpty },[.str "right",.str n,.bl (!rest.isEmpty)]):=by
    unfold serveF;simp only [if_neg hk']
   rw [es] at q
   refine q r _ ⟨⟨dx,?_⟩,⟨ps',?_,paired_keep kk (no_tup hob hwl) hpr⟩,?_⟩ upd_same hr2 kk
   ·rw [upd_ne (Ne.symm rp),upd_same];rfl
   ·rw [upd_ne (Ne.symm rw_),upd_ne (Ne.symm npw),upd_same]
   ·show rest.length <= 1000;omega
theorem scMove:FnScope ["self"] ["self"] (defScope sMove):=⟨rfl,rfl,rfl,by decide +kernel,rfl,by decide +kernel,by decide +kernel⟩
theorem fl_no (a:V) (wl:Addr) (h:V) (k:Bool) {m:Str} (h1:¬ m="pointer") (h2:¬ m="waiting") (h3:¬ m="holder") (h4:¬ m="asked"):(flds a wl h k).lookup m=none:=by
 have e1:(m == ("pointer" : Str))=false:=by simpa using h1
 have e2:(m == ("waiting" : Str))=false:=by simpa using h2
 have e3:(m == ("holder" : Str))=false:=by simpa using h3
 have e4:(m == ("asked" : Str))=false:=by simpa using h4
 unfold flds
 simp only [List.lookup_cons,e1,e2,e3,e4,List.lookup_nil]
theorem SeatAt.stay {H H':Hp} {p wl:Addr} {s:SS} {dx:Addr} (S:SeatAt C H p wl s) (s':SS) (hob:H' p=some (.ins C dx (flds (optV s'.ptr) wl (optV s'.hold) s'.asked))) (hw:H' wl=H wl) (er:s'.row=s.row) (k:Keep [p,wl] H H'):SeatAt C H' p wl s':=by
 obtain ⟨⟨dx0,h0⟩,⟨ps,h1,h2⟩,hl⟩:=S
 refine ⟨⟨dx,hob⟩,⟨ps,by rw [hw];exact h1,?_⟩,by rw [er];exact hl⟩
 rw [er]
 exact paired_keep k (no_tup h0 h1) h2
def spMove (C:Addr):Sp:=fun vs H Q _=>∃ (p wl:Addr) (s:SS),vs=[.ref p]/\SeatAt C H p wl s /\
 ∀ (r:Addr) (H':Hp),SeatAt C H' p wl (moveF s).1->Rows H' r (moveF s).2->H r=none->Keep [p,wl] H H'->Q (.ref r) H'
theorem okMove (T:SeatT K C) (G:MthG K C "move_on" "Seat.move_on" sMove ["self"]) (MS:MCal P w K mg base CX0 1 C "serve_first" ["self"] (spServe C)):MCal P w K mg base CX0 2 C "move_on" ["self"] (spMove C):=by
 refine G.ok scMove (fun vs H Q E h=>by obtain ⟨p,wl,s,rfl,_⟩:=h;rfl) (fun f cdv A outer s0 H vs Q E hr h=>?_)
 obtain ⟨p,wl,s,rfl,S,q⟩:=h
 have hr1:Room 1 _:=hr.mono (by decide)
 refine ⟨_,(pss_cons (ps_if (pt_not (pt_truth (pe_fld (pv 0) rfl) (fun _=>rfl))) (pss_one (ps_ret (pe_lst pa_nil))) pss_nil)
   (pss_cons (ps_if (pt_cmpR op_isN (pe_fld (pv 0) rfl) pe_non (nomark _)) (pss_one (ps_ret (pe_ifExp (pt_cmpR op_isN (pe_fld (pv 0) rfl) pe_non (nomark _)) (pe_lst (pa_cons (pe_mth0 MS T.cl hr1 (pv 0)) pa_nil)) (pe_lst pa_nil)))) pss_nil)
   (pss_cons (ps_if (pt_val (pe_fld (pv 0) rfl)) (pss_one (ps_ret (pe_lst pa_nil))) pss_nil)
   (pss_cons (ps_fld (pv 0) pe_bl rfl)
   (pss_one (ps_ret (pe_lst (pa_cons (pe_tup (pa_cons pe_str (pa_cons (pe_fld (pv 0) rfl) pa_nil))) pa_nil)))))))),?_⟩
 have npw:=S.ne
 obtain ⟨⟨dx,hob⟩,⟨ps,hwl,hpr⟩,hlen⟩:=id S
 have lps:=paired_len hpr
 rw [List.length_map] at lps
 have hps:(ps.map V.ref).isEmpty=s.row.isEmpty:=by
  cases hps:ps <;> cases hrow:s.row <;> simp_all
 have none_:moveF s=(s,[])->∀ r,H r=none->Q (.ref r) (upd H r (.lst [])):=fun e r hr=>by
  rw [e] at q
  exact q r _ (S.keep (Keep.new hr)) ⟨[],upd_same,.nil⟩ hr (Keep.new hr)
 refine ⟨_,rfl,p,C,dx,_,_,rfl,hob,T.cl,T.nW,fl_w _ _ _ _,_,.inl ⟨_,.of hwl,rfl⟩,?_⟩
 dsimp only
 rw [hps]
 cases hem:s.row.isEmpty with
 | true=>
  refine iteT ⟨Nat.zero_le _,fun r hr=>none_ ?_ r hr⟩
  unfold moveF;rw [hem];rfl
 | false=>
 refine iteF ?_
 have hne:s.row ≠ []:=fun z=>by rw [z] at hem;cases hem
 refine ⟨_,rfl,p,C,dx,_,_,rfl,hob,T.cl,T.nP,fl_p _ _ _ _,rfl,_,rfl,?_⟩
 cases hp:s.ptr with
 | none=>
  refine iteT ?_
  refine ⟨_,rfl,p,C,dx,_,_,rfl,hob,T.cl,T.nH,fl_h _ _ _ _,rfl,_,rfl,?_⟩
  cases hh:s.hold with
  | none=>
   refine iteT ?_
   have em:moveF s=((serveF s).1,[(serveF s).2]):=by unfold moveF;rw [hem,hp,hh];rfl
   rw [em] at q
   refine ⟨_,rfl,p,dx,_,rfl,hob,fl_no _ _ _ _ (by decide +kernel) (by decide +kernel) (by decide +kernel) (by decide +kernel),p,wl,s,rfl,S,hne,fun r H1 S1 h1 hr k1=>⟨by show 1 <= sizeLine;decide,fun l hl=>?_⟩⟩
   have nl:H l=none:=by
    cases e:H l with
    | none=>rfl
    | some o=>
     by_cases z:l ∈ [p,wl]
     ·obtain ⟨dx1,o1⟩:=S1.ob
      obtain ⟨ps1,o2,_⟩:=S1.rw
      simp only [List.mem_cons,List.not_mem_nil,or_false] at z
      rcases z with z | z
      ·rw [z,o1] at hl;cases hl
      ·rw [z,o2] at hl;cases hl
     ·rw [k1 l o z e] at hl;cases hl
   exact q l _ (S1.keep (Keep.new hl)) ⟨[r],upd_same,.cons (by rw [upd_ne (ne_of_none h1 hl)];exact h1) .nil⟩ nl (k1.trans (Keep.new hl))
  | some g=>
   refine iteF ⟨Nat.zero_le _,fun r hr=>none_ ?_ r hr⟩
   unfold moveF;rw [hem,hp,hh];rfl
 | some g=>
  refine iteF ?_
  refine ⟨_,rfl,p,C,dx,_,_,rfl,hob,T.cl,T.nA,fl_k _ _ _ _,_,rfl,?_⟩
  cases ha:s.asked with
  | true=>
   refine iteT ⟨Nat.zero_le _,fun r hr=>none_ ?_ r hr⟩
   unfold moveF;rw [hem,hp,ha];rfl
  | false=>
   refine iteF ?_
   have em:moveF s=({ s with asked:=true },[[.str "ask",.str g]]):=by unfold moveF;rw [hem,hp,ha];rfl
   rw [em] at q
   refine ⟨_,rfl,p,C,dx,_,rfl,hob,T.cl,T.nA,by show 4 < 1000;decide,?_⟩
   rw [put_k]
   refine ⟨_,rfl,p,C,dx,_,_,rfl,upd_same,T.cl,T.nP,fl_p _ _ _ _,by show 2 <= sizeLine;decide,fun t ht=>⟨by show 1 <= sizeLine;decide,fun l hl=>?_⟩⟩
   obtain ⟨ht1,tp⟩:=upd_none ht
   obtain ⟨hl1,lt⟩:=upd_none hl
   obtain ⟨hl2,lp⟩:=upd_none hl1
   have nwt:wl ≠ t:=ne_of_none hwl ht1
   have nwl:wl ≠ l:=ne_of_none hwl hl2
   have kk:Keep [p,wl] H (upd (upd (upd H p (.ins C dx (flds (optV s.ptr) wl (optV s.hold) true))) t (.tup [.str "ask",optV s.ptr])) l (.lst [.ref t])):=((Keep.at (by simp)).trans (Keep.new ht)).trans (Keep.new hl)
   refine q l _ (S.stay (dx:=dx) { s with asked:=true } ?_ ?_ rfl kk) ⟨[t],upd_same,.cons ?_ .nil⟩ hl2 kk
   ·rw [upd_ne (Ne.symm lp),upd_ne (Ne.symm tp),upd_same]
   ·rw [upd_ne nwl,upd_ne nwt,upd_ne (Ne.symm npw)]
   ·rw [upd_ne (Ne.symm lt),upd_same,hp];rfl
end
abbrev sChkH:Stmt:=top 21
abbrev sAsk:Stmt:=inClass (top 22) 13
abbrev sCome:Stmt:=inClass (top 22) 14
section
variable {P:Program} {w:World} {K:PySem.W.Frag} {mg:Str->Option Value} {base:Heap} {C:Addr}
def spName (K:PySem.W.Frag):Sp:=fun vs H Q _=>∃ (x:V) (T:String),vs=[x]/\PlainT K H x T/\(∀ z,x=.str z->z.length <= 1000)/\∀ H',Keep [] H H'->Q (.bl (nameV x)) H'
theorem scName:FnScope ["thing"] ["thing"] (defScope sName):=⟨rfl,rfl,rfl,by decide +kernel,rfl,by decide +kernel,by decide +kernel⟩
theorem okName (G:FunG K mg "is_name" sName ["thing"]) (bI:Blt mg "isinstance") (bS:Blt mg "str") (bL:Blt mg "len") (bA:Blt mg "all") (gL:Glo mg "LETTERS" (.str abc)) (g8:Glo mg "LONGEST_NAME" (.int 8)) :
  Cal P w K mg base CX0 1 "is_name" ["thing"] (spName K):=by
 refine G.ok scName (fun vs H Q E h=>by obtain ⟨x,T,rfl,_⟩:=h;rfl) (fun f cdv A outer s H vs Q E hr h=>?_)
 obtain ⟨x,T,rfl,pt,hz,q⟩:=h
 refine ⟨_,pss_cons (ps_if (pt_not (pt_val (pe_blt call_isinst bI bo_isinstance (pa_cons (pv 0) (pa_cons (pe_ty bS bo_str) pa_nil))))) (pss_one (ps_ret pe_bl)) pss_nil)
  (pss_one (ps_ret (pe_and (pe_chain op_le op_le pe_int (pe_blt call_len bL bo_len (pa_cons (pv 0) pa_nil)) (pe_glo g8))
   (pe_one (pe_blt (call_all rfl) bA bo_all (pa_cons (pe_lc1 (N:=["thing"]) (sc:=defScope sName) (ix:=[]) (by decide +kernel) (pi_str (pv 0)) (fun _ _ _ _=>pts_nil)
    (fun C fp s H=>pe_cmpR op_in_str (pv 0) (pe_glo gL) (by with_unfolding_all rfl))) pa_nil)))))),?_⟩
 refine ⟨_,rfl,_,_,_,_,rfl,pt.ty,pt.kit.1,_,rfl,?_⟩
 cases pt with
 | str z=>
  have hz:=hz z rfl
  refine iteF ?_
  refine ⟨_,rfl,_,z.length,rfl,⟨by rw [sizeLine_eq];omega,rfl⟩,_,_,rfl,rfl,_,rfl,?_⟩
  refine ite2 (fun h1=>?_) (fun h1=>?_)
  ·refine ⟨_,_,rfl,rfl,_,rfl,?_⟩
   refine ite2 (fun h2=>?_) (fun h2=>?_)
   ·refine ⟨_,rfl,z,rfl,fun acc ha=>?_⟩
    refine lc_str0 (by rw [sizeLine_eq];show z.length < _;omega) (fun i ys τ H2=>∃ (k:Option V),τ=[k]/\ys=(z.cps.toList.take i).map (fun c=>V.bl (letterB c))/\i <= z.cps.size/\Keep [acc] H H2/\H2 acc=some (.lst ys)) ?_ ?_ ?_ ?_
    ·exact ⟨_,rfl,rfl,Nat.zero_le _,Keep.at (by simp),upd_same⟩
    ·rintro i ys τ H2 ⟨k,rfl,rfl,hi,kp,h3⟩
     exact ⟨h3,by simp;omega⟩
    ·rintro i ys τ H2 hi ⟨k,rfl,rfl,_,kp,h3⟩
     refine ⟨_,rfl,_,_,rfl,rfl,h3,_,rfl,?_,hi,kp.trans (Keep.at (by simp)),upd_same⟩
     rw [List.take_add_one,List.map_append]
     congr 1
     have e:z.cps.toList[i]?=some (z.cps.getD i 0):=by
      rw [Array.getElem?_toList,Array.getD_eq_getD_getElem?,Array.getElem?_eq_getElem hi];rfl
     rw [e];rfl
    ·rintro ys τ H2 ⟨k,rfl,rfl,_,kp,h3⟩
     refine ⟨acc,z.cps.toList.map letterB,rfl,.of ?_,?_⟩
     ·rw [h3,List.take_of_length_le (by simp),List.map_map];rfl
     ·rw [all_map_id]
      have e:nameV (.str z)=z.cps.toList.all letterB:=by
       show (decide (1 <= z.length) && decide (z.length <= 8) && _)=_
       have e1:1 <= z.length:=by have:=of_decide_eq_true h1;omega
       have e2:z.length <= 8:=by have:=of_decide_eq_true h2;omega
       rw [decide_eq_true e1,decide_eq_true e2];rfl
      rw [<- e]
      exact q _ (kp.drop ha)
   ·have e:nameV (.str z)=false:=by
     show (decide (1 <= z.length) && decide (z.length <= 8) && _)=_
     have e2:¬ z.length <= 8:=fun z'=>h2 (decide_eq_true (by omega))
     rw [decide_eq_false e2];simp
    rw [<- e]
    exact q _ (Keep.refl _)
  ·refine ⟨_,rfl,iteF ?_⟩
   have e:nameV (.str z)=false:=by
    show (decide (1 <= z.length) && decide (z.length <= 8) && _)=_
    have e2:¬ 1 <= z.length:=fun z'=>h1 (decide_eq_true (by omega))
    rw [decide_eq_false e2];simp
   rw [<- e]
   exact q _ (Keep.refl _)
 | _=>exact iteT (q H (Keep.refl _))
theorem scChkA:FnScope ["asker"] ["asker"] (defScope sChkA):=⟨rfl,rfl,rfl,by decide +kernel,rfl,by decide +kernel,by decide +kernel⟩
def spChkX (K:PySem.W.Frag) (CA:Addr):Sp:=fun vs H Q E=>∃ (x:V) (T:String),vs=[x]/\PlainT K H x T/\(∀ z,x=.str z->z.length <= 1000)/\((nameV x=true/\∀ H',Keep [] H H'->Q .non H') \/ (nameV x=false/\∀ H',Keep [] H H'->E (.ref CA) none H'))
theorem okChkAX {CA:Addr} (G:FunG K mg "check_asker" sChkA ["asker"]) (CI:Cal P w K mg base CX0 1 "is_name" ["thing"] (spName K)) (exA:ExcC K mg "NoAsker" CA):Cal P w K mg base (CXE P w) 2 "check_asker" ["asker"] (spChkX K CA):=by
 refine G.okX scChkA (fun vs H Q E h=>by obtain ⟨x,T,rfl,_⟩:=h;rfl) (fun f cdv A outer s0 H vs Q E hr h=>?_)
 obtain ⟨x,T,rfl,pt,hz,h⟩:=h
 have hr1:Room 1 _:=hr.mono (by decide)
 refine ⟨_,(pss_one (ps_if (pt_not (pt_val (pe_cal CI hr1 (pa_cons (pv 0) pa_nil)))) (pss_one (ps_raise (raiseOk_cx hr) exA)) pss_nil)),?_⟩
 refine ⟨_,rfl,_,T,rfl,pt,hz,fun H1 k1=>⟨_,rfl,?_⟩⟩
 rcases h with ⟨hn,q⟩ | ⟨hn,q⟩
 ·exact ifF (by show (!nameV x)=false;rw [hn];rfl) (q H1 k1)
 ·exact ifT (by show (!nameV x)=true;rw [hn];rfl) (q H1 k1)
theorem scChkH:FnScope ["house"] ["house"] (defScope sChkH):=⟨rfl,rfl,rfl,by decide +kernel,rfl,by decide +kernel,by decide +kernel⟩
theorem okChkHX {CA:Addr} (G:FunG K mg "check_house" sChkH ["house"]) (CI:Cal P w K mg base CX0 1 "is_name" ["thing"] (spName K)) (exH:ExcC K mg "NoHouse" CA):Cal P w K mg base (CXE P w) 2 "check_house" ["house"] (spChkX K CA):=by
 refine G.okX scChkH (fun vs H Q E h=>by obtain ⟨x,T,rfl,_⟩:=h;rfl) (fun f cdv A outer s0 H vs Q E hr h=>?_)
 obtain ⟨x,T,rfl,pt,hz,h⟩:=h
 have hr1:Room 1 _:=hr.mono (by decide)
 refine ⟨_,(pss_one (ps_if (pt_not (pt_val (pe_cal CI hr1 (pa_cons (pv 0) pa_nil)))) (pss_one (ps_raise (raiseOk_cx hr) exH)) pss_nil)),?_⟩
 refine ⟨_,rfl,_,T,rfl,pt,hz,fun H1 k1=>⟨_,rfl,?_⟩⟩
 rcases h with ⟨hn,q⟩ | ⟨hn,q⟩
 ·exact ifF (by show (!nameV x)=false;rw [hn];rfl) (q H1 k1)
 ·exact ifT (by show (!nameV x)=true;rw [hn];rfl) (q H1 k1)
theorem scWant:FnScope ["self","asker"] ["self","asker"] (defScope sWant):=⟨rfl,rfl,rfl,by decide +kernel,rfl,by decide +kernel,by decide +kernel⟩
abbrev askR (z:Str):Str × Str:=(("asker" : Str),z)
theorem eqT_row (r x:Str × Str):eqT (rowV r) (rowV x)=decide (r=x):=by
 obtain ⟨a,b⟩:=r
 obtain ⟨c,e⟩:=x
 show ((2 == 2) && ((a == c) && ((b == e) && true)))=_
 by_cases h1:a=c <;> by_cases h2:b=e <;> simp [h1,h2]
theorem any_row (row:List (Str × Str)) (x:Str × Str):(row.map rowV).any (fun r=>eqT r (rowV x))=decide (x ∈ row):=by
 rw [List.any_map]
 induction row with
 | nil=>simp
 | cons r row ih=>
  rw [List.any_cons,ih]
  show (eqT (rowV r) (rowV x) || decide (x ∈ row))=_
  rw [eqT_row]
  by_cases h1:r=x
  ·subst h1;simp
  ·have h2:¬ x=r:=fun z=>h1 z.symm
   simp [h1,h2]
theorem scalO (z:Str) (o:Option Str):scal (.str z) (optV o)=true:=by cases o <;> rfl
theorem decO (z:Str) (o:Option Str):decide (V.str z=optV o)=decide (o=some z):=by
 cases o with
 | none=>simp [optV]
 | some y=>simp [optV,eq_comm]
theorem fl_mo (a:V) (wl:Addr) (h:V) (k:Bool):(flds a wl h k).lookup ("move_on" : Str)=none:=fl_no a wl h k (by decide +kernel) (by decide +kernel) (by decide +kernel) (by decide +kernel)
theorem SeatAt.more {H H1 H3:Hp} {p wl t dx:Addr} {s:SS} {ps:List Addr} {x:Str × Str} (hob:H3 p=some (.ins C dx (flds (optV s.ptr) wl (optV s.hold) s.asked)))
  (hpr:Paired (fun q r=>H3 q=some (.tup r)) ps (s.row.map rowV)) (hw:H3 wl=some (.lst (ps.map V.ref ++ [.ref t]))) (ht:H3 t=some (.tup (rowV x))) (hl:s.row.length < 1000):SeatAt C H3 p wl { s with row:=s.row ++ [x] }:=by
 refine ⟨⟨dx,hob⟩,⟨ps ++ [t],by rw [hw,List.map_append];rfl,?_⟩,by show (s.row ++ [x]).length <= 1000;simp;omega⟩
 show Paired _ _ ((s.row ++ [x]).map rowV)
 rw [List.map_append]
 exact paired_snoc hpr ht
def spWantX (K:PySem.W.Frag) (C CA CL:Addr):Sp:=fun vs H Q E=>∃ (p wl:Addr) (s:SS) (x:V),vs=[.ref p,x]/\SeatAt C H p wl s/\(∃ T,PlainT K H x T)/\(∀ z,x=.str z->z.length <= 1000) /\
  ((nameV x=false/\∀ H',Keep [] H H'->E (.ref CA) none H') \/
   (∃ z,x=.str z/\nameS z=true/\(s.hold=some z \/ askR z ∈ s.row)/\∀ H',Keep [] H H'->E (.ref CL) none H') \/
   (∃ z,x=.str z/\nameS z=true/\s.hold ≠ some z/\askR z ∉ s.row/\s.row.length < 1000/\∀ (r:Addr) (H':Hp),SeatAt C H' p wl (moveF { s with row:=s.row ++ [(askR z)] }).1->Rows H' r (moveF { s with row:=s.row ++ [(askR z)] }).2->H r=none->Keep [p,wl] H H'->Q (.ref r) H'))
theorem okWantX {CA CL:Addr} (T:SeatT K C) (G:MthG K C "want" "Seat.want" sWant ["self","asker"]) (CC:Cal P w K mg base (CXE P w) 2 "check_asker" ["asker"] (spChkX K CA)) (MM:MCal P w K mg base CX0 2 C "move_on" ["self"] (spMove C)) (exA:ExcC K mg "NoAsker" CL) :
  MCal P w K mg base (CXE P w) 3 C "want" ["self","asker"] (spWantX K C CA CL):=by
 refine G.okX scWant (fun vs H Q E h=>by obtain ⟨p,wl,s,x,rfl,_⟩:=h;rfl) (fun f cdv A outer s0 H vs Q E hr h=>?_)
 obtain ⟨p,wl,s,x,rfl,S0,⟨Tx,ptx⟩,hsz,h⟩:=h
 have hr2:Room 2 _:=hr.mono (by decide)
 have hu:=hu_of hr
 refine ⟨_,(pss_cons (ps_expr (pe_calX CC pass_cx hr2 (pa_cons (pv 1) pa_nil)))
   (pss_cons (ps_if (PW.pt (pw_or (pt_cmpR op_eq (pv 1) (pe_fld (pv 0) rfl) (nomark _)) (pw_or1 (pt_cmpR (op_inT hu) (pe_tup (pa_cons pe_str (pa_cons (pv 1) pa_nil))) (pe_fld (pv 0) rfl) (by with_unfolding_all rfl))))) (pss_one (ps_raise (raiseOk_cx hr) exA)) pss_nil)
   (pss_cons (ps_expr (pe_bm PySem.F.plainAttrs_list PySem.F.slot_list_append PySem.F.type_list_append mt_append (pe_fld (pv 0) rfl) (pa_cons (pe_tup (pa_cons pe_str (pa_cons (pv 1) pa_nil))) pa_nil)))
   (pss_one (ps_ret (pe_mth0 MM T.cl hr2 (pv 0))))))),?_⟩
 rcases h with ⟨hnm,q⟩ | ⟨z,rfl,hn,hb,q⟩ | ⟨z,rfl,hn,hh,hi,hlen,q⟩
 ·exact ⟨_,rfl,x,Tx,rfl,ptx,hsz,.inr ⟨hnm,q⟩⟩
 ·refine ⟨_,rfl,_,Tx,rfl,ptx,hsz,.inl ⟨hn,fun H1 k1=>?_⟩⟩
  have S:=S0.keep k1
  obtain ⟨⟨dx,hob⟩,⟨ps,hwl,hpr⟩,_⟩:=id S
  refine ⟨_,rfl,_,rfl,p,C,dx,_,_,rfl,hob,T.cl,T.nH,fl_h _ _ _ _,scalO _ _,_,rfl,?_⟩
  by_cases hh:s.hold=some z
  ·exact ifT (by rw [decO];exact decide_eq_true hh) (ifT rfl (q H1 k1))
  ·refine ifF (by rw [decO];exact decide_eq_false hh) ?_
   refine ⟨_,rfl,by show 2 <= sizeLine;decide,fun t ht=>?_⟩
   have k2:Keep [] H1 (upd H1 t (.tup [.str "asker",.str z])):=Keep.new ht
   refine ⟨_,rfl,p,C,dx,_,_,rfl,(k2 _ _ (by simp) hob),T.cl,T.nW,fl_w _ _ _ _,wl,t,_,s.row.map rowV,rfl,rfl,(Rows.keep ⟨ps,hwl,hpr⟩ k2),upd_same,rfl,rowV_flat _,_,rfl,?_⟩
   exact ifT (by show ((s.row.map rowV).any fun r=>eqT r (rowV (askR z)))=true;rw [any_row];exact decide_eq_true (hb.resolve_left hh)) (q _ (k1.trans k2))
 ·refine ⟨_,rfl,_,Tx,rfl,ptx,hsz,.inl ⟨hn,fun H1 k1=>?_⟩⟩
  have S:=S0.keep k1
  have npw:=S.ne
  obtain ⟨⟨dx,hob⟩,⟨ps,hwl,hpr⟩,_⟩:=id S
  refine ⟨_,rfl,_,rfl,p,C,dx,_,_,rfl,hob,T.cl,T.nH,fl_h _ _ _ _,scalO _ _,_,rfl,?_⟩
  refine ifF (by rw [decO];exact decide_eq_false hh) ?_
  refine ⟨_,rfl,by show 2 <= sizeLine;decide,fun t ht=>?_⟩
  have pt:p ≠ t:=ne_of_none hob ht
  have wt:wl ≠ t:=ne_of_none hwl ht
  have k2:Keep [] H1 (upd H1 t (.tup [.str "asker",.str z])):=Keep.new ht
  refine ⟨_,rfl,p,C,dx,_,_,rfl,(k2 _ _ (by simp) hob),T.cl,T.nW,fl_w _ _ _ _,wl,t,_,s.row.map rowV,rfl,rfl,(Rows.keep ⟨ps,hwl,hpr⟩ k2),upd_same,rfl,rowV_flat _,_,rfl,?_⟩
  refine ifF (by show ((s.row.map rowV).any fun r=>eqT r (rowV (askR z)))=false;rw [any_row];exact decide_eq_false hi) ?_
  refine ⟨_,rfl,p,C,dx,_,_,rfl,(k2 _ _ (by simp) hob),T.cl,T.nW,fl_w _ _ _ _,.inl ⟨rfl,_,.of (k2 _ _ (by simp) hwl)⟩,_,rfl,by show 2 <= sizeLine;decide,fun t2 ht2=>?_⟩
  have k3:Keep [] (upd H1 t (.tup [.str "asker",.str z])) (upd (upd H1 t (.tup [.str "asker",.str z])) t2 (.tup [.str "asker",.str z])):=Keep.new ht2
  have k13:=k2.trans k3
  have wt2:wl ≠ t2:=ne_of_none (k2 _ _ (by simp) hwl) ht2
  have lps:=paired_len hpr
  rw [List.length_map] at lps
  refine ⟨wl,_,_,rfl,rfl,k13 _ _ (by simp) hwl,by rw [List.length_map,sizeLine_eq];omega,?_⟩
  generalize hH3:upd (upd H1 t (.tup [.str "asker",.str z])) t2 (.tup [.str "asker",.str z])=H3 at k3 k13 ⊢
  have h3t:H3 t2=some (.tup (rowV (askR z))):=by rw [<- hH3];exact upd_same
  have k4:Keep [p,wl] H1 (upd H3 wl (.lst (ps.map V.ref ++ [.ref t2]))):=(k13.mono (by simp)).trans (Keep.at (by simp))
  have hob4:upd H3 wl (.lst (ps.map V.ref ++ [.ref t2])) p=some (.ins C dx (flds (optV s.ptr) wl (optV s.hold) s.asked)):=by rw [upd_ne npw];exact k13 _ _ (by simp) hob
  have S4:SeatAt C (upd H3 wl (.lst (ps.map V.ref ++ [.ref t2]))) p wl { s with row:=s.row ++ [(askR z)] }:=
   SeatAt.more (H:=H) (H1:=H1) hob4 (paired_keep k4 (no_tup hob hwl) hpr) upd_same (by rw [upd_ne (Ne.symm wt2)];exact h3t) hlen
  refine ⟨_,rfl,p,dx,_,rfl,hob4,fl_mo _ _ _ _,p,wl,_,rfl,S4,fun r H5 S5 R5 hr5 k5=>?_⟩
  have hr4:=(upd_none hr5).1
  exact q r H5 S5 R5 (k1.none (by simp) (k13.none (by simp) hr4)) (((k1.mono (by simp)).trans k4).trans k5)
theorem scLeave:FnScope ["self","asker"] ["self","asker"] (defScope sLeave):=⟨rfl,rfl,rfl,by decide +kernel,rfl,by decide +kernel,by decide +kernel⟩
def spLeaveX (K:PySem.W.Frag) (C CA CL:Addr):Sp:=fun vs H Q E=>∃ (p wl:Addr) (s:SS) (x:V),vs=[.ref p,x]/\SeatAt C H p wl s/\(∃ T,PlainT K H x T)/\(∀ z,x=.str z->z.length <= 1000) /\
  ((nameV x=false/\∀ H',Keep [] H H'->E (.ref CA) none H') \/
   (∃ z,x=.str z/\nameS z=true/\(askR z ∉ s.row)/\∀ H',Keep [] H H'->E (.ref CL) none H') \/
   (∃ z j,x=.str z/\nameS z=true/\s.row[j]?=some (askR z)/\(∀ m:Nat,m < j->s.row[m]? ≠ some (askR z))/\∀ (r:Addr) (H':Hp),SeatAt C H' p wl (moveF { s with row:=s.row.eraseIdx j }).1->Rows H' r (moveF { s with row:=s.row.eraseIdx j }).2->H r=none->Keep [p,wl] H H'->Q (.ref r) H'))
theorem okLeaveX {CA CL:Addr} (T:SeatT K C) (G:MthG K C "leave" "Seat.leave" sLeave ["self","asker"]) (CC:Cal P w K mg base (CXE P w) 2 "check_asker" ["asker"] (spChkX K CA)) (MM:MCal P w K mg base CX0 2 C "move_on" ["self"] (spMove C)) (exA:ExcC K mg "NoAsker" CL) :
  MCal P w K mg base (CXE P w) 3 C "leave" ["self","asker"] (spLeaveX K C CA CL):=by
 refine G.okX scLeave (fun vs H Q E h=>by obtain ⟨p,wl,s,x,rfl,_⟩:=h;rfl) (fun f cdv A outer s0 H vs Q E hr h=>?_)
 obtain ⟨p,wl,s,x,rfl,S0,⟨Tx,ptx⟩,hsz,h⟩:=h
 have hr2:Room 2 _:=hr.mono (by decide)
 have hu:=hu_of hr
 refine ⟨_,(pss_cons (ps_expr (pe_calX CC pass_cx hr2 (pa_cons (pv 1) pa_nil)))
   (pss_cons (ps_if (pt_cmpR (op_notInT hu) (pe_tup (pa_cons pe_str (pa_cons (pv 1) pa_nil))) (pe_fld (pv 0) rfl) (by with_unfolding_all rfl)) (pss_one (ps_raise (raiseOk_cx hr) exA)) pss_nil)
   (pss_cons (ps_expr (pe_bm PySem.F.plainAttrs_list PySem.F.slot_list_remove PySem.F.type_list_remove (mt_removeT hu) (pe_fld (pv 0) rfl) (pa_cons (pe_tup (pa_cons pe_str (pa_cons (pv 1) pa_nil))) pa_nil)))
   (pss_one (ps_ret (pe_mth0 MM T.cl hr2 (pv 0))))))),?_⟩
 rcases h with ⟨hnm,q⟩ | ⟨z,rfl,hn,hb,q⟩ | ⟨z,j,rfl,hn,hj,hno,q⟩
 ·exact ⟨_,rfl,x,Tx,rfl,ptx,hsz,.inr ⟨hnm,q⟩⟩
 ·refine ⟨_,rfl,_,Tx,rfl,ptx,hsz,.inl ⟨hn,fun H1 k1=>?_⟩⟩
  have S:=S0.keep k1
  obtain ⟨⟨dx,hob⟩,⟨ps,hwl,hpr⟩,_⟩:=id S
  refine ⟨_,rfl,by show 2 <= sizeLine;decide,fun t ht=>?_⟩
  have k2:Keep [] H1 (upd H1 t (.tup [.str "asker",.str z])):=Keep.new ht
  refine ⟨_,rfl,p,C,dx,_,_,rfl,(k2 _ _ (by simp) hob),T.cl,T.nW,fl_w _ _ _ _,wl,t,_,s.row.map rowV,rfl,rfl,(Rows.keep ⟨ps,hwl,hpr⟩ k2),upd_same,rfl,rowV_flat _,_,rfl,?_⟩
  exact ifT (by show (!((s.row.map rowV).any fun r=>eqT r (rowV (askR z))))=true;rw [any_row,decide_eq_false hb];rfl) (q _ (k1.trans k2))
 ·refine ⟨_,rfl,_,Tx,rfl,ptx,hsz,.inl ⟨hn,fun H1 k1=>?_⟩⟩
  have S:=S0.keep k1
  have npw:=S.ne
  obtain ⟨⟨dx,hob⟩,⟨ps,hwl,hpr⟩,hlen⟩:=id S
  refine ⟨_,rfl,by show 2 <= sizeLine;decide,fun t ht=>?_⟩
  have k2:Keep [] H1 (upd H1 t (.tup [.str "asker",.str z])):=Keep.new ht
  refine ⟨_,rfl,p,C,dx,_,_,rfl,(k2 _ _ (by simp) hob),T.cl,T.nW,fl_w _ _ _ _,wl,t,_,s.row.map rowV,rfl,rfl,(Rows.keep ⟨ps,hwl,hpr⟩ k2),upd_same,rfl,rowV_flat _,_,rfl,?_⟩
  refine ifF (by show (!((s.row.map rowV).any fun r=>eqT r (rowV (askR z))))=false;rw [any_row,decide_eq_true (List.mem_of_getElem? hj)];rfl) ?_
  refine ⟨_,rfl,p,C,dx,_,_,rfl,(k2 _ _ (by simp) hob),T.cl,T.nW,fl_w _ _ _ _,.inl ⟨rfl,_,.of (k2 _ _ (by simp) hwl)⟩,_,rfl,by show 2 <= sizeLine;decide,fun t2 ht2=>?_⟩
  have k3:Keep [] (upd H1 t (.tup [.str "asker",.str z])) (upd (upd H1 t (.tup [.str "asker",.str z])) t2 (.tup [.str "asker",.str z])):=Keep.new ht2
  have k13:=k2.trans k3
  have hn13:∀ b ∈ ([]:List Addr),∀ xs,H1 b ≠ some (.tup xs):=fun b hb=>by cases hb
  refine ⟨wl,t2,_,s.row.map rowV,j,ps,rfl,rfl,k13 _ _ (by simp) hwl,paired_keep k13 hn13 hpr,upd_same,rfl,rowV_flat _,⟨rowV (askR z),by rw [List.getElem?_map,hj];rfl,by
   show eqT (rowV (askR z)) (rowV (askR z))=true
   rw [eqT_row];exact decide_eq_true rfl⟩,(fun m r hm e=>by
   rw [List.getElem?_map] at e
   cases hx:s.row[m]? with
   | none=>rw [hx] at e;cases e
   | some y=>
    rw [hx] at e
    have e':rowV y=r:=Option.some.inj e
    rw [<- e']
    show eqT (rowV y) (rowV (askR z))=false
    rw [eqT_row]
    exact decide_eq_false (fun w=>hno m hm (by rw [hx,w]))),?_⟩
  generalize hH3:upd (upd H1 t (.tup [.str "asker",.str z])) t2 (.tup [.str "asker",.str z])=H3 at k3 k13 ⊢
  have k4:Keep [p,wl] H1 (upd H3 wl (.lst ((ps.eraseIdx j).map V.ref))):=(k13.mono (by simp)).trans (Keep.at (by simp))
  have hob4:upd H3 wl (.lst ((ps.eraseIdx j).map V.ref)) p=some (.ins C dx (flds (optV s.ptr) wl (optV s.hold) s.asked)):=by rw [upd_ne npw];exact k13 _ _ (by simp) hob
  have S4:SeatAt C (upd H3 wl (.lst ((ps.eraseIdx j).map V.ref))) p wl { s with row:=s.row.eraseIdx j }:=by
   refine ⟨⟨dx,hob4⟩,⟨ps.eraseIdx j,upd_same,?_⟩,Nat.le_trans (len_erase s.row j) hlen⟩
   show Paired _ _ ((s.row.eraseIdx j).map rowV)
   rw [<- map_erase rowV]
   exact paired_erase j (paired_keep k4 (no_tup hob hwl) hpr)
  refine ⟨_,rfl,p,dx,_,rfl,hob4,fl_mo _ _ _ _,p,wl,_,rfl,S4,fun r H5 S5 R5 hr5 k5=>?_⟩
  have hr4:=(upd_none hr5).1
  exact q r H5 S5 R5 (k1.none (by simp) (k13.none (by simp) hr4)) (((k1.mono (by simp)).trans k4).trans k5)
theorem scDone:FnScope ["self","asker"] ["self","asker"] (defScope sDone):=⟨rfl,rfl,rfl,by decide +kernel,rfl,by decide +kernel,by decide +kernel⟩
def spDoneX (K:PySem.W.Frag) (C CA CL:Addr):Sp:=fun vs H Q E=>∃ (p wl:Addr) (s:SS) (x:V),vs=[.ref p,x]/\SeatAt C H p wl s/\(∃ T,PlainT K H x T)/\(∀ z,x=.str z->z.length <= 1000) /\
  ((nameV x=false/\∀ H',Keep [] H H'->E (.ref CA) none H') \/
   (∃ z,x=.str z/\nameS z=true/\(s.hold ≠ some z)/\∀ H',Keep [] H H'->E (.ref CL) none H') \/
   (∃ z,x=.str z/\nameS z=true/\s.hold=some z/\∀ (r:Addr) (H':Hp),SeatAt C H' p wl (moveF { s with hold:=none }).1->Rows H' r (moveF { s with hold:=none }).2->H r=none->Keep [p,wl] H H'->Q (.ref r) H'))
theorem okDoneX {CA CL:Addr} (T:SeatT K C) (G:MthG K C "done" "Seat.done" sDone ["self","asker"]) (CC:Cal P w K mg base (CXE P w) 2 "check_asker" ["asker"] (spChkX K CA)) (MM:MCal P w K mg base CX0 2 C "move_on" ["self"] (spMove C)) (exA:ExcC K mg "NoAsker" CL) :
  MCal P w K mg base (CXE P w) 3 C "done" ["self","asker"] (spDoneX K C CA CL):=by
 refine G.okX scDone (fun vs H Q E h=>by obtain ⟨p,wl,s,x,rfl,_⟩:=h;rfl) (fun f cdv A outer s0 H vs Q E hr h=>?_)
 obtain ⟨p,wl,s,x,rfl,S0,⟨Tx,ptx⟩,hsz,h⟩:=h
 have hr2:Room 2 _:=hr.mono (by decide)
 have hu:=hu_of hr
 refine ⟨_,(pss_cons (ps_expr (pe_calX CC pass_cx hr2 (pa_cons (pv 1) pa_nil)))
   (pss_cons (ps_if (pt_cmpR op_ne (pv 1) (pe_fld (pv 0) rfl) (nomark _)) (pss_one (ps_raise (raiseOk_cx hr) exA)) pss_nil)
   (pss_cons (ps_fld (pv 0) pe_non rfl)
   (pss_one (ps_ret (pe_mth0 MM T.cl hr2 (pv 0))))))),?_⟩
 rcases h with ⟨hnm,q⟩ | ⟨z,rfl,hn,hb,q⟩ | ⟨z,rfl,hn,hh,q⟩
 ·exact ⟨_,rfl,x,Tx,rfl,ptx,hsz,.inr ⟨hnm,q⟩⟩
 ·refine ⟨_,rfl,_,Tx,rfl,ptx,hsz,.inl ⟨hn,fun H1 k1=>?_⟩⟩
  have S:=S0.keep k1
  obtain ⟨⟨dx,hob⟩,⟨ps,hwl,hpr⟩,_⟩:=id S
  refine ⟨_,rfl,_,rfl,p,C,dx,_,_,rfl,hob,T.cl,T.nH,fl_h _ _ _ _,scalO _ _,_,rfl,?_⟩
  exact ifT (by rw [decO,decide_eq_false hb];rfl) (q H1 k1)
 ·refine ⟨_,rfl,_,Tx,rfl,ptx,hsz,.inl ⟨hn,fun H1 k1=>?_⟩⟩
  have S:=S0.keep k1
  have npw:=S.ne
  obtain ⟨⟨dx,hob⟩,⟨ps,hwl,hpr⟩,hlen⟩:=id S
  refine ⟨_,rfl,_,rfl,p,C,dx,_,_,rfl,hob,T.cl,T.nH,fl_h _ _ _ _,scalO _ _,_,rfl,?_⟩
  refine ifF (by rw [decO,decide_eq_true hh];rfl) ?_
  refine ⟨_,rfl,p,C,dx,_,rfl,hob,T.cl,T.nH,by show 4 < 1000;decide,?_⟩
  rw [put_h]
  have k4:Keep [p,wl] H1 (upd H1 p (.ins C dx (flds (optV s.ptr) wl .non s.asked))):=Keep.at (by simp)
  have S4:SeatAt C (upd H1 p (.ins C dx (flds (optV s.ptr) wl .non s.asked))) p wl { s with hold:=none }:=S.stay (dx:=dx) { s with hold:=none } upd_same (by rw [upd_ne (Ne.symm npw)]) rfl k4
  refine ⟨_,rfl,p,dx,_,rfl,upd_same,fl_mo _ _ _ _,p,wl,_,rfl,S4,fun r H5 S5 R5 hr5 k5=>?_⟩
  have hr4:=(upd_none hr5).1
  exact q r H5 S5 R5 (k1.none (by simp) hr4) (((k1.mono (by simp)).trans k4).trans k5)
theorem scAsk:FnScope ["self","house"] ["self","house"] (defScope sAsk):=⟨rfl,rfl,rfl,by decide +kernel,rfl,by decide +kernel,by decide +kernel⟩
abbrev hsR (z:Str):Str × Str:=(("house" : Str),z)
def spAskX (K:PySem.W.Frag) (C CA CL:Addr):Sp:=fun vs H Q E=>∃ (p wl:Addr) (s:SS) (x:V),vs=[.ref p,x]/\SeatAt C H p wl s/\(∃ T,PlainT K H x T)/\(∀ z,x=.str z->z.length <= 1000) /\
  ((nameV x=false/\∀ H',Keep [] H H'->E (.ref CA) none H') \/
   (∃ z,x=.str z/\nameS z=true/\(s.ptr=some z \/ hsR z ∈ s.row)/\∀ H',Keep [] H H'->E (.ref CL) none H') \/
   (∃ z,x=.str z/\nameS z=true/\s.ptr ≠ some z/\hsR z ∉ s.row/\s.row.length < 1000/\∀ (r:Addr) (H':Hp),SeatAt C H' p wl (moveF { s with row:=s.row ++ [(hsR z)] }).1->Rows H' r (moveF { s with row:=s.row ++ [(hsR z)] }).2->H r=none->Keep [p,wl] H H'->Q (.ref r) H'))
theorem okAskX {CA CL:Addr} (T:SeatT K C) (G:MthG K C "ask" "Seat.ask" sAsk ["self","house"]) (CC:Cal P w K mg base (CXE P w) 2 "check_house" ["house"] (spChkX K CA)) (MM:MCal P w K mg base CX0 2 C "move_on" ["self"] (spMove C)) (exL:ExcC K mg "NoLetter" CL) :
  MCal P w K mg base (CXE P w) 3 C "ask" ["self","house"] (spAskX K C CA CL):=by
 refine G.okX scAsk (fun vs H Q E h=>by obtain ⟨p,wl,s,x,rfl,_⟩:=h;rfl) (fun f cdv A outer s0 H vs Q E hr h=>?_)
 obtain ⟨p,wl,s,x,rfl,S0,⟨Tx,ptx⟩,hsz,h⟩:=h
 have hr2:Room 2 _:=hr.mono (by decide)
 have hu:=hu_of hr
 refine ⟨_,(pss_cons (ps_expr (pe_calX CC pass_cx hr2 (pa_cons (pv 1) pa_nil)))
   (pss_cons (ps_if (pt_cmpR op_eq (pv 1) (pe_fld (pv 0) rfl) (nomark _)) (pss_one (ps_raise (raiseOk_cx hr) exL)) pss_nil)
   (pss_cons (ps_if (pt_cmpR (op_inT hu) (pe_tup (pa_cons pe_str (pa_cons (pv 1) pa_nil))) (pe_fld (pv 0) rfl) (by with_unfolding_all rfl)) (pss_one (ps_raise (raiseOk_cx hr) exL)) pss_nil)
   (pss_cons (ps_expr (pe_bm PySem.F.plainAttrs_list PySem.F.slot_list_append PySem.F.type_list_append mt_append (pe_fld (pv 0) rfl) (pa_cons (pe_tup (pa_cons pe_str (pa_cons (pv 1) pa_nil))) pa_nil)))
   (pss_one (ps_ret (pe_mth0 MM T.cl hr2 (pv 0)))))))),?_⟩
 rcases h with ⟨hnm,q⟩ | ⟨z,rfl,hn,hb,q⟩ | ⟨z,rfl,hn,hh,hi,hlen,q⟩
 ·exact ⟨_,rfl,x,Tx,rfl,ptx,hsz,.inr ⟨hnm,q⟩⟩
 ·refine ⟨_,rfl,_,Tx,rfl,ptx,hsz,.inl ⟨hn,fun H1 k1=>?_⟩⟩
  have S:=S0.keep k1
  obtain ⟨⟨dx,hob⟩,⟨ps,hwl,hpr⟩,_⟩:=id S
  refine ⟨_,rfl,_,rfl,p,C,dx,_,_,rfl,hob,T.cl,T.nP,fl_p _ _ _ _,scalO _ _,_,rfl,?_⟩
  by_cases hh:s.ptr=some z
  ·exact ifT (by rw [decO];exact decide_eq_true hh) (q H1 k1)
  ·refine ifF (by rw [decO];exact decide_eq_false hh) ?_
   refine ⟨_,rfl,by show 2 <= sizeLine;decide,fun t ht=>?_⟩
   have k2:Keep [] H1 (upd H1 t (.tup [.str "house",.str z])):=Keep.new ht
   refine ⟨_,rfl,p,C,dx,_,_,rfl,(k2 _ _ (by simp) hob),T.cl,T.nW,fl_w _ _ _ _,wl,t,_,s.row.map rowV,rfl,rfl,(Rows.keep ⟨ps,hwl,hpr⟩ k2),upd_same,rfl,rowV_flat _,_,rfl,?_⟩
   exact ifT (by show ((s.row.map rowV).any fun r=>eqT r (rowV (hsR z)))=true;rw [any_row];exact decide_eq_true (hb.resolve_left hh)) (q _ (k1.trans k2))
 ·refine ⟨_,rfl,_,Tx,rfl,ptx,hsz,.inl ⟨hn,fun H1 k1=>?_⟩⟩
  have S:=S0.keep k1
  have npw:=S.ne
  obtain ⟨⟨dx,hob⟩,⟨ps,hwl,hpr⟩,_⟩:=id S
  refine ⟨_,rfl,_,rfl,p,C,dx,_,_,rfl,hob,T.cl,T.nP,fl_p _ _ _ _,scalO _ _,_,rfl,?_⟩
  refine ifF (by rw [decO];exact decide_eq_false hh) ?_
  refine ⟨_,rfl,by show 2 <= sizeLine;decide,fun t ht=>?_⟩
  have k2:Keep [] H1 (upd H1 t (.tup [.str "house",.str z])):=Keep.new ht
  refine ⟨_,rfl,p,C,dx,_,_,rfl,(k2 _ _ (by simp) hob),T.cl,T.nW,fl_w _ _ _ _,wl,t,_,s.row.map rowV,rfl,rfl,(Rows.keep ⟨ps,hwl,hpr⟩ k2),upd_same,rfl,rowV_flat _,_,rfl,?_⟩
  refine ifF (by show ((s.row.map rowV).any fun r=>eqT r (rowV (hsR z)))=false;rw [any_row];exact decide_eq_false hi) ?_
  refine ⟨_,rfl,p,C,dx,_,_,rfl,(k2 _ _ (by simp) hob),T.cl,T.nW,fl_w _ _ _ _,.inl ⟨rfl,_,.of (k2 _ _ (by simp) hwl)⟩,_,rfl,by show 2 <= sizeLine;decide,fun t2 ht2=>?_⟩
  have k3:Keep [] (upd H1 t (.tup [.str "house",.str z])) (upd (upd H1 t (.tup [.str "house",.str z])) t2 (.tup [.str "house",.str z])):=Keep.new ht2
  have k13:=k2.trans k3
  have wt2:wl ≠ t2:=ne_of_none (k2 _ _ (by simp) hwl) ht2
  have lps:=paired_len hpr
  rw [List.length_map] at lps
  refine ⟨wl,_,_,rfl,rfl,k13 _ _ (by simp) hwl,by rw [List.length_map,sizeLine_eq];omega,?_⟩
  generalize hH3:upd (upd H1 t (.tup [.str "house",.str z])) t2 (.tup [.str "house",.str z])=H3 at k3 k13 ⊢
  have h3t:H3 t2=some (.tup (rowV (hsR z))):=by rw [<- hH3];exact upd_same
  have k4:Keep [p,wl] H1 (upd H3 wl (.lst (ps.map V.ref ++ [.ref t2]))):=(k13.mono (by simp)).trans (Keep.at (by simp))
  have hob4:upd H3 wl (.lst (ps.map V.ref ++ [.ref t2])) p=some (.ins C dx (flds (optV s.ptr) wl (optV s.hold) s.asked)):=by rw [upd_ne npw];exact k13 _ _ (by simp) hob
  have S4:SeatAt C (upd H3 wl (.lst (ps.map V.ref ++ [.ref t2]))) p wl { s with row:=s.row ++ [(hsR z)] }:=
   SeatAt.more (H:=H) (H1:=H1) hob4 (paired_keep k4 (no_tup hob hwl) hpr) upd_same (by rw [upd_ne (Ne.symm wt2)];exact h3t) hlen
  refine ⟨_,rfl,p,dx,_,rfl,hob4,fl_mo _ _ _ _,p,wl,_,rfl,S4,fun r H5 S5 R5 hr5 k5=>?_⟩
  have hr4:=(upd_none hr5).1
  exact q r H5 S5 R5 (k1.none (by simp) (k13.none (by simp) hr4)) (((k1.mono (by simp)).trans k4).trans k5)
theorem scCome:FnScope ["self","house","back"] ["self","house","back"] (defScope sCome):=⟨rfl,rfl,rfl,by decide +kernel,rfl,by decide +kernel,by decide +kernel⟩
def comeF (s:SS) (z:Str) (b:Bool):SS:={ s with ptr:=none,asked:=false,row:=if b then s.row ++ [hsR z] else s.row }
def spComeX (K:PySem.W.Frag) (C CA CL:Addr):Sp:=fun vs H Q E=>∃ (p wl:Addr) (s:SS) (x y:V),vs=[.ref p,x,y]/\SeatAt C H p wl s/\(∃ T,PlainT K H x T)/\(∀ z,x=.str z->z.length <= 1000) /\
  ((nameV x=false/\∀ H',Keep [] H H'->E (.ref CA) none H') \/
   (∃ z,x=.str z/\nameS z=true/\s.ptr ≠ some z/\∀ H',Keep [] H H'->E (.ref CL) none H') \/
   (∃ z T,x=.str z/\nameS z=true/\s.ptr=some z/\PlainT K H y T/\T ≠ "bool"/\∀ H',Keep [] H H'->E (.ref CL) none H') \/
   (∃ z b,x=.str z/\nameS z=true/\y=.bl b/\s.ptr=some z/\s.row.length < 1000/\∀ (r:Addr) (H':Hp),SeatAt C H' p wl (moveF (comeF s z b)).1->Rows H' r (moveF (comeF s z b)).2->H r=none->Keep [p,wl] H H'->Q (.ref r) H'))
theorem okComeX {CA CL:Addr} (T:SeatT K C) (G:MthG K C "come" "Seat.come" sCome ["self","house","back"]) (CC:Cal P w K mg base (CXE P w) 2 "check_house" ["house"] (spChkX K CA)) (MM:MCal P w K mg base CX0 2 C "move_on" ["self"] (spMove C)) (exL:ExcC K mg "NoLetter" CL) (b_isinstance:Blt mg "isinstance") (b_bool:Blt mg "bool") :
  MCal P w K mg base (CXE P w) 3 C "come" ["self","house","back"] (spComeX K C CA CL):=by
 refine G.okX scCome (fun vs H Q E h=>by obtain ⟨p,wl,s,x,y,rfl,_⟩:=h;rfl) (fun f cdv A outer s0 H vs Q E hr h=>?_)
 obtain ⟨p,wl,s,x,y,rfl,S0,⟨Tx,ptx⟩,hsz,h⟩:=h
 have hr2:Room 2 _:=hr.mono (by decide)
 refine ⟨_,(pss_cons (ps_expr (pe_calX CC pass_cx hr2 (pa_cons (pv 1) pa_nil)))
   (pss_cons (ps_if (pt_cmpR op_ne (pv 1) (pe_fld (pv 0) rfl) (nomark _)) (pss_one (ps_raise (raiseOk_cx hr) exL)) pss_nil)
   (pss_cons (ps_if (pt_not (pt_val (pe_blt call_isinst b_isinstance bo_isinstance (pa_cons (pv 2) (pa_cons (pe_ty b_bool bo_bool) pa_nil))))) (pss_one (ps_raise (raiseOk_cx hr) exL)) pss_nil)
   (pss_cons (ps_fld (pv 0) pe_non rfl)
   (pss_cons (ps_fld (pv 0) pe_bl rfl)
   (pss_cons (ps_if (pt_val (pv 2)) (pss_one (ps_expr (pe_bm PySem.F.plainAttrs_list PySem.F.slot_list_append PySem.F.type_list_append mt_append (pe_fld (pv 0) rfl) (pa_cons (pe_tup (pa_cons pe_str (pa_cons (pv 1) pa_nil))) pa_nil)))) pss_nil)
   (pss_one (ps_ret (pe_mth0 MM T.cl hr2 (pv 0)))))))))),?_⟩
 rcases h with ⟨hnm,q⟩ | ⟨z,rfl,hn,hb,q⟩ | ⟨z,Ty,rfl,hn,hh,pty,hty,q⟩ | ⟨z,b,rfl,hn,rfl,hh,hlen,q⟩
 ·exact ⟨_,rfl,x,Tx,rfl,ptx,hsz,.inr ⟨hnm,q⟩⟩
 ·refine ⟨_,rfl,_,Tx,rfl,ptx,hsz,.inl ⟨hn,fun H1 k1=>?_⟩⟩
  have S:=S0.keep k1
  obtain ⟨⟨dx,hob⟩,⟨ps,hwl,hpr⟩,_⟩:=id S
  refine ⟨_,rfl,_,rfl,p,C,dx,_,_,rfl,hob,T.cl,T.nP,fl_p _ _ _ _,scalO _ _,_,rfl,?_⟩
  exact ifT (by rw [decO,decide_eq_false hb];rfl) (q H1 k1)
 ·refine ⟨_,rfl,_,Tx,rfl,ptx,hsz,.inl ⟨hn,fun H1 k1=>?_⟩⟩
  have S:=S0.keep k1
  obtain ⟨⟨dx,hob⟩,⟨ps,hwl,hpr⟩,_⟩:=id S
  refine ⟨_,rfl,_,rfl,p,C,dx,_,_,rfl,hob,T.cl,T.nP,fl_p _ _ _ _,scalO _ _,_,rfl,?_⟩
  refine ifF (by rw [decO,decide_eq_true hh];rfl) ?_
  refine ⟨_,rfl,_,_,_,_,rfl,(pty.keep k1).ty,(pty.keep k1).kit.2.2.1,_,rfl,?_⟩
  exact ifT (by show (!(Ty == "bool"))=true;rw [beq_eq_false_iff_ne.mpr hty];rfl) (q H1 k1)
 ·refine ⟨_,rfl,_,Tx,rfl,ptx,hsz,.inl ⟨hn,fun H1 k1=>?_⟩⟩
  have S:=S0.keep k1
  have npw:=S.ne
  obtain ⟨⟨dx,hob⟩,⟨ps,hwl,hpr⟩,_⟩:=id S
  refine ⟨_,rfl,_,rfl,p,C,dx,_,_,rfl,hob,T.cl,T.nP,fl_p _ _ _ _,scalO _ _,_,rfl,?_⟩
  refine ifF (by rw [decO,decide_eq_true hh];rfl) ?_
  refine ⟨_,rfl,_,_,_,_,rfl,(PlainT.bl (K:=K) (H:=H1) b).ty,(PlainT.bl (K:=K) (H:=H1) b).kit.2.2.1,_,rfl,?_⟩
  refine ifF rfl ?_
  refine ⟨_,rfl,p,C,dx,_,rfl,hob,T.cl,T.nP,by show 4 < 1000;decide,?_⟩
  rw [put_p]
  refine ⟨_,rfl,p,C,dx,_,rfl,upd_same,T.cl,T.nA,by show 4 < 1000;decide,?_⟩
  dsimp only
  rw [put_k,upd_upd]
  have k2:Keep [p,wl] H1 (upd H1 p (.ins C dx (flds .non wl (optV s.hold) false))):=Keep.at (by simp)
  have S2:SeatAt C (upd H1 p (.ins C dx (flds .non wl (optV s.hold) false))) p wl { s with ptr:=none,asked:=false }:=S.stay (dx:=dx) { s with ptr:=none,asked:=false } upd_same (by rw [upd_ne (Ne.symm npw)]) rfl k2
  have hob2:upd H1 p (.ins C dx (flds .non wl (optV s.hold) false)) p=some (.ins C dx (flds .non wl (optV s.hold) false)):=upd_same
  have hwl2:upd H1 p (.ins C dx (flds .non wl (optV s.hold) false)) wl=some (.lst (ps.map V.ref)):=by rw [upd_ne (Ne.symm npw)];exact hwl
  have hpr2:=paired_keep k2 (no_tup hob hwl) hpr
  have n12:∀ r,upd H1 p (.ins C dx (flds .non wl (optV s.hold) false)) r=none->H1 r=none:=fun r h=>(upd_none h).1
  generalize upd H1 p (.ins C dx (flds .non wl (optV s.hold) false))=H2 at k2 S2 hob2 hwl2 hpr2 n12 ⊢
  refine ⟨_,rfl,_,rfl,?_⟩
  cases b with
  | false=>
   refine ifF rfl ?_
   refine ⟨_,rfl,p,dx,_,rfl,hob2,fl_mo _ _ _ _,p,wl,_,rfl,S2,fun r H5 S5 R5 hr5 k5=>?_⟩
   exact q r H5 S5 R5 (k1.none (by simp) (n12 r hr5)) (((k1.mono (by simp)).trans k2).trans k5)
  | true=>
   refine ifT rfl ?_
   refine ⟨_,rfl,p,C,dx,_,_,rfl,hob2,T.cl,T.nW,fl_w _ _ _ _,.inl ⟨rfl,_,.of hwl2⟩,_,rfl,by show 2 <= sizeLine;decide,fun t2 ht2=>?_⟩
   have k3:Keep [] H2 (upd H2 t2 (.tup [.str "house",.str z])):=Keep.new ht2
   have wt2:wl ≠ t2:=ne_of_none hwl2 ht2
   have lps:=paired_len hpr
   rw [List.length_map] at lps
   refine ⟨wl,_,_,rfl,rfl,k3 _ _ (by simp) hwl2,by rw [List.length_map,sizeLine_eq];omega,?_⟩
   have n23:∀ r,upd H2 t2 (.tup [.str "house",.str z]) r=none->H2 r=none:=fun r h=>(upd_none h).1
   have h3t:upd H2 t2 (.tup [.str "house",.str z]) t2=some (.tup (rowV (hsR z))):=upd_same
   generalize upd H2 t2 (.tup [.str "house",.str z])=H3 at k3 n23 h3t ⊢
   have k4:Keep [p,wl] H2 (upd H3 wl (.lst (ps.map V.ref ++ [.ref t2]))):=(k3.mono (by simp)).trans (Keep.at (by simp))
   have hob4:upd H3 wl (.lst (ps.map V.ref ++ [.ref t2])) p=some (.ins C dx (flds (optV none) wl (optV s.hold) false)):=by rw [upd_ne npw];exact k3 _ _ (by simp) hob2
   have S4:SeatAt C (upd H3 wl (.lst (ps.map V.ref ++ [.ref t2]))) p wl (comeF s z true):=
    SeatAt.more (s:={ s with ptr:=none,asked:=false }) (H:=H) (H1:=H2) hob4 (paired_keep k4 (no_tup hob2 hwl2) hpr2) upd_same (by rw [upd_ne (Ne.symm wt2)];exact h3t) hlen
   refine ⟨_,rfl,p,dx,_,rfl,hob4,fl_mo _ _ _ _,p,wl,_,rfl,S4,fun r H5 S5 R5 hr5 k5=>?_⟩
   have hr4:=(upd_none hr5).1
   exact q r H5 S5 R5 (k1.none (by simp) (n12 r (n23 r hr4))) ((((k1.mono (by simp)).trans k2).trans k4).trans k5)
theorem scArrow:FnScope ["self"] ["self"] (defScope sArrow):=⟨rfl,rfl,rfl,by decide +kernel,rfl,by decide +kernel,by decide +kernel⟩
def spArrow (C:Addr):Sp:=fun vs H Q _=>∃ (p wl:Addr) (s:SS),vs=[.ref p]/\SeatAt C H p wl s/\Q (optV s.ptr) H
theorem okArrow (T:SeatT K C) (G:MthG K C "arrow" "Seat.arrow" sArrow ["self"]):MCal P w K mg base CX0 1 C "arrow" ["self"] (spArrow C):=by
 refine G.ok scArrow (fun vs H Q E h=>by obtain ⟨p,wl,s,rfl,_⟩:=h;rfl) (fun f cdv A outer s0 H vs Q E hr h=>?_)
 obtain ⟨p,wl,s,rfl,S,q⟩:=h
 obtain ⟨dx,hob⟩:=S.ob
 exact ⟨_,(pss_one (ps_ret (pe_fld (pv 0) rfl))),_,rfl,p,C,dx,_,_,rfl,hob,T.cl,T.nP,fl_p _ _ _ _,q⟩
theorem scInside:FnScope ["self"] ["self"] (defScope sInside):=⟨rfl,rfl,rfl,by decide +kernel,rfl,by decide +kernel,by decide +kernel⟩
def spInside (C:Addr):Sp:=fun vs H Q _=>∃ (p wl:Addr) (s:SS),vs=[.ref p]/\SeatAt C H p wl s/\Q (optV s.hold) H
theorem okInside (T:SeatT K C) (G:MthG K C "inside" "Seat.inside" sInside ["self"]):MCal P w K mg base CX0 1 C "inside" ["self"] (spInside C):=by
 refine G.ok scInside (fun vs H Q E h=>by obtain ⟨p,wl,s,rfl,_⟩:=h;rfl) (fun f cdv A outer s0 H vs Q E hr h=>?_)
 obtain ⟨p,wl,s,rfl,S,q⟩:=h
 obtain ⟨dx,hob⟩:=S.ob
 exact ⟨_,(pss_one (ps_ret (pe_fld (pv 0) rfl))),_,rfl,p,C,dx,_,_,rfl,hob,T.cl,T.nH,fl_h _ _ _ _,q⟩
theorem scHas:FnScope ["self"] ["self"] (defScope sHas):=⟨rfl,rfl,rfl,by decide +kernel,rfl,by decide +kernel,by decide +kernel⟩
def spHas (C:Addr):Sp:=fun vs H Q _=>∃ (p wl:Addr) (s:SS),vs=[.ref p]/\SeatAt C H p wl s/\Q (.bl s.asked) H
theorem okHas (T:SeatT K C) (G:MthG K C "has_asked" "Seat.has_asked" sHas ["self"]):MCal P w K mg base CX0 1 C "has_asked" ["self"] (spHas C):=by
 refine G.ok scHas (fun vs H Q E h=>by obtain ⟨p,wl,s,rfl,_⟩:=h;rfl) (fun f cdv A outer s0 H vs Q E hr h=>?_)
 obtain ⟨p,wl,s,rfl,S,q⟩:=h
 obtain ⟨dx,hob⟩:=S.ob
 exact ⟨_,(pss_one (ps_ret (pe_fld (pv 0) rfl))),_,rfl,p,C,dx,_,_,rfl,hob,T.cl,T.nA,fl_k _ _ _ _,q⟩
theorem scRow:FnScope ["self"] ["self"] (defScope sRow):=⟨rfl,rfl,rfl,by decide +kernel,rfl,by decide +kernel,by decide +kernel⟩
def spRow (C:Addr):Sp:=fun vs H Q _=>∃ (p wl:Addr) (s:SS),vs=[.ref p]/\SeatAt C H p wl s/\∀ (r:Addr) (H':Hp),H r=none->Rows H' r (s.row.map rowV)->Keep [] H H'->Q (.ref r) H'
theorem okRow (T:SeatT K C) (G:MthG K C "row" "Seat.row" sRow ["self"]) (bT:Blt mg "list"):MCal P w K mg base CX0 1 C "row" ["self"] (spRow C):=by
 refine G.ok scRow (fun vs H Q E h=>by obtain ⟨p,wl,s,rfl,_⟩:=h;rfl) (fun f cdv A outer s0 H vs Q E hr h=>?_)
 obtain ⟨p,wl,s,rfl,S,q⟩:=h
 obtain ⟨⟨dx,hob⟩,⟨ps,hwl,hpr⟩,hlen⟩:=id S
 refine ⟨_,(pss_one (ps_ret (pe_callTy call_list_of rfl bT.no bo_list (pa_cons (pe_fld (pv 0) rfl) pa_nil)))),_,rfl,p,C,dx,_,_,rfl,hob,T.cl,T.nW,fl_w _ _ _ _,wl,_,rfl,.inl (.of hwl),fun l hl=>?_⟩
 have k1:Keep [] H (upd H l (.lst (ps.map V.ref))):=Keep.new hl
 exact q l _ hl ⟨ps,upd_same,paired_keep k1 (fun b hb=>by cases hb) hpr⟩ k1
theorem scInit:FnScope ["self","arrow"] ["self","arrow"] (defScope sInit):=⟨rfl,rfl,rfl,by decide +kernel,rfl,by decide +kernel,by decide +kernel⟩
theorem put_all (a:V) (wl:Addr):putF "asked" (.bl false) (putF "holder" .non (putF "waiting" (.ref wl) (putF "pointer" a [])))=flds a wl .non false:=by
 unfold flds
 simp only [putF,if_neg n1,if_neg n2,if_neg n3,if_neg n4,if_neg n5,if_neg n6]
def spInit (C:Addr):Sp:=fun vs H Q _=>∃ (p dx:Addr) (ar:Option Str),vs=[.ref p,optV ar]/\H p=some (.ins C dx [])/\(∀ z,ar=some z->nameS z=true/\z.length <= 1000) /\
 ∀ (wl:Addr) (H':Hp),H wl=none->SeatAt C H' p wl ⟨ar,[],none,false⟩->Keep [p] H H'->Q .non H'
theorem okInit {fI:Addr} {fd:FuncData} (T:SeatT K C) (G:Fun K "__init__" "Seat.__init__" sInit fI fd) (CI:Cal P w K mg base CX0 1 "is_name" ["thing"] (spName K)):FnOk P w K mg base CX0 2 fI fd ["self","arrow"] (spInit C):=by
 refine G.ok scInit (fun vs H Q E h=>by obtain ⟨p,dx,ar,rfl,_⟩:=h;rfl) (fun cdv A outer s0 H vs Q E hr h=>?_)
 obtain ⟨p,dx,ar,rfl,hp,hz,q⟩:=h
 have hr1:Room 1 _:=hr.mono (by decide)
 refine ⟨_,(pss_cons (ps_if (PW.pt (pw_and (pt_cmpR op_notN (pv 1) pe_non (nomark _)) (pw_and1 (pt_not (pt_val (pe_cal CI hr1 (pa_cons (pv 1) pa_nil))))))) (pss_one ps_never) pss_nil)
   (pss_cons (ps_fld (pv 0) (pv 1) rfl)
   (pss_cons (ps_fld (pv 0) (pe_lst pa_nil) rfl)
   (pss_cons (ps_fld (pv 0) pe_non rfl)
   (pss_one (ps_fld (pv 0) pe_bl rfl)))))),?_⟩
 have rest:∀ H1,Keep [] H H1->(tSeq (sFld K (tVar 0) (tVar 1) "pointer") (tSeq (sFld K (tVar 0) (tLst tNil) "waiting") (tSeq (sFld K (tVar 0) (tC .non) "holder") (sFld K (tVar 0) (tC (.bl false)) "asked")))) { nx:=fun _ H'=>Q .non H',rt:=Q } (L2.start ["self","arrow"] [.ref p,optV ar]) H1:=fun H1 k1=>by
  have hp1:=k1 _ _ (by simp) hp
  refine ⟨_,rfl,_,rfl,p,C,dx,_,rfl,hp1,T.cl,T.nP,by show 0 < 1000;decide,Nat.zero_le _,fun wl hw=>?_⟩
  obtain ⟨hw1,wp⟩:=upd_none hw
  refine ⟨_,rfl,p,C,dx,_,rfl,by rw [upd_ne (Ne.symm wp),upd_same],T.cl,T.nW,by show 1 < 1000;decide,?_⟩
  refine ⟨_,rfl,p,C,dx,_,rfl,upd_same,T.cl,T.nH,by show 2 < 1000;decide,?_⟩
  refine ⟨_,rfl,p,C,dx,_,rfl,upd_same,T.cl,T.nA,by show 3 < 1000;decide,?_⟩
  dsimp only
  rw [put_all,upd_upd,upd_upd]
  refine q wl _ (k1.none (by simp) hw1) ⟨⟨dx,upd_same⟩,⟨[],by rw [upd_ne wp,upd_same];rfl,.nil⟩,Nat.zero_le _⟩ ?_
  exact ((((k1.mono (by simp)).trans (Keep.at (by simp))).trans (Keep.new hw))).trans (Keep.at (by simp))
 cases ar with
 | none=>exact ⟨_,rfl,rfl,_,rfl,ifF rfl (ifF rfl (rest H (Keep.refl _)))⟩
 | some z=>
  obtain ⟨h1,h2⟩:=hz z rfl
  refine ⟨_,rfl,rfl,_,rfl,ifT rfl ?_⟩
  refine ⟨_,rfl,_,"str",rfl,.str z,(fun z' e=>by cases e;exact h2),fun H1 k1=>⟨_,rfl,?_⟩⟩
  exact ifF (by show (!nameS z)=false;rw [h1];rfl) (rest H1 k1)
end
abbrev sAlike:Stmt:=top 31
def Alk (H:Hp):Nat->V->V->Prop
 | 0,u,v=>u=v/\flatV u=true
 | n + 1,u,v=>(u=v/\flatV u=true) \/ ∃ (a b:Addr) (us vs:List V),u=.ref a/\v=.ref b/\((H a=some (.lst us)/\H b=some (.lst vs)) \/ (H a=some (.tup us)/\H b=some (.tup vs)))/\Paired (Alk H n) us vs/\us.length <= 2000
theorem Alk.flat {H:Hp} {u:V} (n:Nat) (f:flatV u=true):Alk H n u u:=by
 cases n with
 | zero=>exact ⟨rfl,f⟩
 | succ n=>exact .inl ⟨rfl,f⟩
theorem Alk.keep {H H':Hp} (k:Keep [] H H') (n:Nat):∀ {u v:V},Alk H n u v->Alk H' n u v:=by
 induction n with
 | zero=>exact fun h=>h
 | succ n ih=>
  intro u v h
  rcases h with h | ⟨a,b,us,vs,e1,e2,hh,hp,hl⟩
  ·exact .inl h
  ·exact .inr ⟨a,b,us,vs,e1,e2,hh.elim (fun z=>.inl ⟨k _ _ (by simp) z.1,k _ _ (by simp) z.2⟩) (fun z=>.inr ⟨k _ _ (by simp) z.1,k _ _ (by simp) z.2⟩),L2.Paired.mapP hp fun x y z=>ih z,hl⟩
theorem flat_plain {K:PySem.W.Frag} {H:Hp} {u:V} (f:flatV u=true):∃ T,PlainT K H u T/\T ≠ "list"/\T ≠ "tuple":=by
 cases u with
 | non=>exact ⟨_,.non,by decide,by decide⟩
 | bl b=>exact ⟨_,.bl b,by decide,by decide⟩
 | int i=>exact ⟨_,.int i,by decide,by decide⟩
 | str z=>exact ⟨_,.str z,by decide,by decide⟩
 | _=>exact absurd (show false=true from f) Bool.false_ne_true
theorem kitLT {K:PySem.W.Frag} {H:Hp} {x:V} {T:String} (h:PlainT K H x T):PySem.W.kitAny K (.type T) [.type "list",.type "tuple"]=some (T == "list" || T == "tuple"):=by
 cases h <;> rfl
section
variable {P:Program} {w:World} {K:PySem.W.Frag} {mg:Str->Option Value} {base:Heap} {C:Addr}
theorem scAlike:FnScope ["_law_found","_law_due"] ["_law_found","_law_due"] (defScope sAlike):=⟨rfl,rfl,rfl,by decide +kernel,rfl,by decide +kernel,by decide +kernel⟩
def spAl:Nat->Sp
 | 0=>fun _ _ _ _=>False
 | n + 1=>fun vs H Q _=>∃ (u v:V),vs=[u,v]/\Alk H n u v/\∀ H',Keep [] H H'->Q (.bl true) H'
theorem len_ref {K:PySem.W.Frag} {H:Hp} {a b:Addr} {us vs:List V} (h:(H a=some (.lst us)/\H b=some (.lst vs)) \/ (H a=some (.tup us)/\H b=some (.tup vs))):LenV K (.ref a) H us.length/\LenV K (.ref b) H vs.length:=by
 rcases h with ⟨h1,h2⟩ | ⟨h1,h2⟩
 ·exact ⟨.inl ⟨_,.of h1,rfl⟩,.inl ⟨_,.of h2,rfl⟩⟩
 ·exact ⟨.inr ⟨_,.of h1,rfl⟩,.inr ⟨_,.of h2,rfl⟩⟩
theorem ty_ref {K:PySem.W.Frag} {H:Hp} {a b:Addr} {us vs:List V} (h:(H a=some (.lst us)/\H b=some (.lst vs)) \/ (H a=some (.tup us)/\H b=some (.tup vs))):∃ T,PlainT K H (.ref a) T/\PlainT K H (.ref b) T/\(T="list" \/ T="tuple"):=by
 rcases h with ⟨h1,h2⟩ | ⟨h1,h2⟩
 ·exact ⟨_,.lst h1,.lst h2,.inl rfl⟩
 ·exact ⟨_,.tup h1,.tup h2,.inr rfl⟩
theorem ref_keep {H H':Hp} {a b:Addr} {us vs:List V} (k:Keep [] H H') (h:(H a=some (.lst us)/\H b=some (.lst vs)) \/ (H a=some (.tup us)/\H b=some (.tup vs))):(H' a=some (.lst us)/\H' b=some (.lst vs)) \/ (H' a=some (.tup us)/\H' b=some (.tup vs)):=
 h.elim (fun z=>.inl ⟨k _ _ (by simp) z.1,k _ _ (by simp) z.2⟩) (fun z=>.inr ⟨k _ _ (by simp) z.1,k _ _ (by simp) z.2⟩)
theorem okAlike (G:FunG K mg "_law_alike" sAlike ["_law_found","_law_due"]) (b_isinstance:Blt mg "isinstance") (b_list:Blt mg "list") (b_tuple:Blt mg "tuple") (b_bool:Blt mg "bool") (b_len:Blt mg "len") (b_all:Blt mg "all") (b_range:Blt mg "range") :
  ∀ n,Cal P w K mg base CX0 n "_law_alike" ["_law_found","_law_due"] (spAl n)
 | 0=>by
  obtain ⟨f,fd,F,hm,hb⟩:=G.ex
  exact ⟨f,fd,⟨fun _ _ _ _ h=>h.elim,fun _ _ _ _ _ _ _ _ _ _ _ _ _ h=>h.elim⟩,hm,F.kp,hb⟩
 | n + 1=>by
  have CA:=okAlike G b_isinstance b_list b_tuple b_bool b_len b_all b_range n
  refine G.ok scAlike (fun vs H Q E h=>by obtain ⟨u,v,rfl,_⟩:=h;rfl) (fun f cdv A outer s0 H vs Q E hr h=>?_)
  obtain ⟨u,v,rfl,hA,q⟩:=h
  refine ⟨_,(pss_cons (ps_if (pt_val (pe_blt call_isinstT b_isinstance bo_isinstance (pa_cons (pv 1) (pa_cons (pe_tup (pa_cons (pe_ty b_list bo_list) (pa_cons (pe_ty b_tuple bo_tuple) pa_nil))) pa_nil)))) (pss_cons (ps_if (PW.pt (pw_or (pt_cmpR op_ne (pe_blt call_isinst b_isinstance bo_isinstance (pa_cons (pv 1) (pa_cons (pe_ty b_list bo_list) pa_nil))) (pe_blt call_isinst b_isinstance bo_isinstance (pa_cons (pv 0) (pa_cons (pe_ty b_list bo_list) pa_nil))) (nomark _)) (pw_or1 (pt_cmpR op_ne (pe_blt call_isinst b_isinstance bo_isinstance (pa_cons (pv 1) (pa_cons (pe_ty b_tuple bo_tuple) pa_nil))) (pe_blt call_isinst b_isinstance bo_isinstance (pa_cons (pv 0) (pa_cons (pe_ty b_tuple bo_tuple) pa_nil))) (nomark _))))) (pss_one (ps_ret pe_bl)) pss_nil)
   (pss_cons (ps_if (pt_cmpR op_ne (pe_blt call_len b_len bo_len (pa_cons (pv 0) pa_nil)) (pe_blt call_len b_len bo_len (pa_cons (pv 1) pa_nil)) (nomark _)) (pss_one (ps_ret pe_bl)) pss_nil)
   (pss_one (ps_ret (pe_blt (call_all rfl) b_all bo_all (pa_cons (pe_lc1 (N:=["_law_found","_law_due"]) (sc:=defScope sAlike) (ix:=[0,1]) (by decide +kernel) (pi_range1 rfl b_range.no (pa_cons (pe_blt call_len b_len bo_len (pa_cons (pv 1) pa_nil)) pa_nil)) (fun _ _ _ _=>pts_nil) (fun _ _ _ _=>(pe_cal CA hr (pa_cons (pe_ix (ix_lstH.or ix_tupH) (pv 1) (pv 0) (fun _ _=>rfl)) (pa_cons (pe_ix (ix_lstH.or ix_tupH) (pv 2) (pv 0) (fun _ _=>rfl)) pa_nil))))) pa_nil)))))) pss_nil)
   (pss_one (ps_ret (pe_and (pe_cmpR op_eq (pe_blt call_isinst b_isinstance bo_isinstance (pa_cons (pv 0) (pa_cons (pe_ty b_bool bo_bool) pa_nil))) (pe_blt call_isinst b_isinstance bo_isinstance (pa_cons (pv 1) (pa_cons (pe_ty b_bool bo_bool) pa_nil))) (nomark _)) (pe_one (pe_cmpR op_eq (pv 0) (pv 1) (nomark _))))))),?_⟩
  have hA':(u=v/\flatV u=true) \/ ∃ (a b:Addr) (us vs:List V) (m:Nat),u=.ref a/\v=.ref b/\((H a=some (.lst us)/\H b=some (.lst vs)) \/ (H a=some (.tup us)/\H b=some (.tup vs)))/\n=m + 1/\Paired (Alk H m) us vs/\us.length <= 2000:=by
   cases n with
   | zero=>exact .inl hA
   | succ m=>
    rcases hA with h | ⟨a,b,us,vs,e1,e2,hh,hp,hl⟩
    ·exact .inl h
    ·exact .inr ⟨a,b,us,vs,m,e1,e2,hh,rfl,hp,hl⟩
  rcases hA' with ⟨rfl,fu⟩ | ⟨a,b,us,vs,m,rfl,rfl,hh,rfl,hp,hl⟩
  ·obtain ⟨T,pt,n1,n2⟩:=flat_plain (K:=K) (H:=H) fu
   have sc:scal u u=true:=by
    cases u <;> first | rfl | exact absurd (show false=true from fu) Bool.false_ne_true
   refine ⟨_,rfl,by show 2 <= sizeLine;decide,fun t ht=>?_⟩
   have k1:Keep [] H (upd H t (.tup [.ty "list",.ty "tuple"])):=Keep.new ht
   refine ⟨_,T,t,["list","tuple"],_,rfl,pt.keep k1,upd_same,kitLT (pt.keep k1),_,rfl,?_⟩
   refine ifF (by simp [n1,n2]) ?_
   have kt:=(pt.keep k1).kit.2.2.1
   refine ⟨_,rfl,_,_,_,_,rfl,(pt.keep k1).ty,kt,_,rfl,_,_,_,_,rfl,(pt.keep k1).ty,kt,rfl,_,rfl,?_⟩
   refine ifT (by simp) ⟨_,rfl,_,rfl,sc,?_⟩
   rw [decide_eq_true rfl]
   exact q _ k1
  ·have hlen:=paired_len hp
   refine ⟨_,rfl,by show 2 <= sizeLine;decide,fun t ht=>?_⟩
   have k1:Keep [] H (upd H t (.tup [.ty "list",.ty "tuple"])):=Keep.new ht
   generalize hH1:upd H t (.tup [.ty "list",.ty "tuple"])=H1 at k1 ⊢
   have hh1:=ref_keep k1 hh
   obtain ⟨T,pa,pb,hT⟩:=ty_ref (K:=K) hh1
   refine ⟨_,T,t,["list","tuple"],_,rfl,pb,by rw [<- hH1];exact upd_same,kitLT pb,_,rfl,?_⟩
   refine ifT (by rcases hT with h | h <;> rw [h] <;> rfl) ?_
   refine ⟨_,rfl,_,_,_,_,rfl,pb.ty,pb.kit.2.2.2.1,_,rfl,_,_,_,_,rfl,pa.ty,pa.kit.2.2.2.1,rfl,_,rfl,?_⟩
   refine ifF (by simp) ?_
   refine ⟨_,rfl,_,_,_,_,rfl,pb.ty,pb.kit.2.2.2.2,_,rfl,_,_,_,_,rfl,pa.ty,pa.kit.2.2.2.2,rfl,_,rfl,?_⟩
   refine ifF (by simp) ?_
   obtain ⟨l1,l2⟩:=len_ref (K:=K) hh1
   refine ⟨_,rfl,_,_,rfl,l1,_,rfl,_,_,rfl,l2,rfl,_,rfl,?_⟩
   refine ifF (by rw [hlen];simp) ?_
   refine ⟨_,rfl,_,_,rfl,l2,_,rfl,by omega,by omega,fun acc hacc=>?_⟩
   refine lc_range0 (by rw [sizeLine_eq];omega) (fun i ys τ H2=>∃ (k:Option V),τ=[k,some (.ref a),some (.ref b)]/\ys=List.replicate i (V.bl true)/\Keep [acc] H1 H2/\H2 acc=some (.lst ys)) ?_ ?_ ?_ ?_
   ·exact ⟨_,rfl,rfl,Keep.at (by simp),upd_same⟩
   ·rintro i ys τ H2 ⟨k,rfl,rfl,kp,h2⟩
    exact ⟨h2,by simp⟩
   ·rintro i ys τ H2 hi ⟨k,rfl,rfl,kp,h2⟩
    have hi':i < vs.length:=by omega
    have hi2:i < us.length:=by omega
    have k2:Keep [] H1 H2:=kp.drop hacc
    have hh2:=ref_keep k2 hh1
    obtain ⟨y,ey,ay⟩:=paired_get hp i us[i] (List.getElem?_eq_getElem hi2)
    have ix1:∀ {p:Addr} {zs:List V} {x:V} {Q:VK},zs[i]?=some x->(H2 p=some (.lst zs) \/ H2 p=some (.tup zs))->Q x H2->(rIxH (.ref p) (.int (0 + (i:Int))) H2 Q \/ rIxTH (.ref p) (.int (0 + (i:Int))) H2 Q):=fun {p zs x Q} e1 e2 e3=>by
     have e4:atI zs (0 + (i:Int))=some x:=by rw [Int.zero_add];exact atI_nat e1
     exact e2.elim (fun z=>.inl ⟨p,zs,_,x,rfl,rfl,z,e4,e3⟩) (fun z=>.inr ⟨p,zs,_,x,rfl,rfl,z,e4,e3⟩)
    refine ⟨_,rfl,_,rfl,ix1 (List.getElem?_eq_getElem hi2) (hh2.imp (·.1) (·.1)) ⟨_,rfl,_,rfl,ix1 ey (hh2.imp (·.2) (·.2)) ?_⟩⟩
    refine ⟨us[i],y,rfl,Alk.keep (k1.trans k2) m ay,fun H3 k3=>⟨k3 _ _ (by simp) h2,_,rfl,?_,(kp.trans (k3.mono (by simp))).trans (Keep.at (by simp)),upd_same⟩⟩
    rw [List.replicate_succ']
   ·rintro ys τ H2 ⟨k,rfl,rfl,kp,h2⟩
    refine ⟨acc,List.replicate _ true,rfl,.of (by rw [h2,List.map_replicate]),?_⟩
    have e:(List.replicate ((vs.length:Nat):Int).toNat true).all id=true:=by simp
    rw [e]
    exact q _ (k1.trans (kp.drop hacc))
end
abbrev sCell:Stmt:=top 24
abbrev sMixed:Stmt:=top 25
abbrev sDigits:Stmt:=top 26
abbrev sNext:Stmt:=top 27
abbrev sNames:Stmt:=top 28
abbrev sTold:Stmt:=top 32
def Src (H:Hp) (p:Addr):Prop:=∃ a b c:Int,H p=some (.lst [.int a,.int b,.int c])
def LowS (z:Str):Prop:=∀ c ∈ z.cps.toList,letterB c=true
theorem abc_low:∀ c ∈ abc.cps.toList,letterB c=true:=by decide +kernel
theorem low_app {x y:Str} (h1:LowS x) (h2:LowS y):LowS (x ++ y):=by
 intro c hc
 have e:(x ++ y).cps.toList=x.cps.toList ++ y.cps.toList:=by
  show (x.cps ++ y.cps).toList=_
  simp
 rw [e] at hc
 exact (List.mem_append.mp hc).elim (h1 c) (h2 c)
theorem low_one {ch:Nat} (h:ch ∈ abc.cps.toList):LowS ⟨#[ch]⟩:=fun c hc=>by
 have e:c=ch:=by simpa using hc
 rw [e];exact abc_low ch h
theorem low_slice {x:Str} (h:LowS x) (lo hi:Option Int):LowS (Txt.slice x lo hi):=by
 intro c hc
 unfold Txt.slice at hc
 split at hc
 ·exact h c hc
 ·simp only [List.mem_filterMap] at hc
  obtain ⟨i,_,e⟩:=hc
  exact h c (by
   rw [<- Array.getElem?_toList] at e
   exact List.mem_of_getElem? e)
theorem low_fold:∀ (zs:List Str) (acc:Array Nat),(∀ c ∈ acc.toList,letterB c=true)->(∀ z ∈ zs,LowS z)->∀ c ∈ (zs.foldl (fun acc p=>acc ++ (Str.ofString "").cps ++ p.cps) acc).toList,letterB c=true
 | [],acc,h,_=>h
 | z :: zs,acc,h,hz=>by
  rw [List.foldl_cons]
  refine low_fold zs _ (fun c hc=>?_) fun y hy=>hz y (List.mem_cons_of_mem _ hy)
  have hc':c ∈ acc.toList ++ (Str.ofString "").cps.toList ++ z.cps.toList:=by simpa using hc
  rcases List.mem_append.mp hc' with q | q
  ·rcases List.mem_append.mp q with q | q
   ·exact h c q
   ·exact absurd q (by show ¬ c ∈ ([]:List Nat);simp)
  ·exact hz z List.mem_cons_self c q
theorem low_join (zs:List Str) (h:∀ z ∈ zs,LowS z):LowS (Txt.join (Str.ofString "") zs):=by
 cases zs with
 | nil=>intro c hc;exact absurd hc (by show ¬ c ∈ ([]:List Nat);simp)
 | cons z zs=>
  show ∀ c ∈ ((zs.foldl (fun acc p=>acc ++ (Str.ofString "").cps ++ p.cps) z.cps)).toList,letterB c=true
  exact low_fold zs _ (h z List.mem_cons_self) fun y hy=>h y (List.mem_cons_of_mem _ hy)
theorem name_of {z:Str} (h:LowS z) (h1:1 <= z.length) (h2:z.length <= 8):nameS z=true:=by
 unfold nameS
 rw [decide_eq_true h1,decide_eq_true h2]
 simp only [Bool.true_and]
 exact List.all_eq_true.mpr h
section
variable {P:Program} {w:World} {K:PySem.W.Frag} {mg:Str->Option Value} {base:Heap} {C:Addr}
def spMixed:Sp:=fun vs H Q _=>∃ a k,vs=[.int a,.int k]/\∀ v:Int,0 <= v->v < 2147483629->Q (.int v) H
theorem scMixed:FnScope ["_law_cell","_law_k","_law_number"] ["_law_cell","_law_k"] (defScope sMixed):=⟨rfl,rfl,rfl,by decide +kernel,rfl,by decide +kernel,by decide +kernel⟩
theorem okMixed (G:FunG K mg "_law_mixed" sMixed ["_law_cell","_law_k"]):Cal P w K mg base CX0 1 "_law_mixed" ["_law_cell","_law_k"] spMixed:=by
 refine G.ok scMixed (fun vs H Q E h=>by obtain ⟨a,k,rfl,_⟩:=h;rfl) (fun f cdv A outer s H vs Q E hr h=>?_)
 obtain ⟨a,k,rfl,q⟩:=h
 refine ⟨_,pss_cons (ps_set (i:=2) scMixed.nd rfl (Or.inl rfl) (pe_op op_mod (pe_op op_mul (pe_op op_add (pe_op op_add (pe_op op_mod (pv 0) pe_int) (pe_op op_mul pe_int (pv 1))) pe_int) pe_int) pe_int))
  (pss_cons (ps_set (i:=2) scMixed.nd rfl (Or.inl rfl) (pe_op op_mod (pe_op op_mul (pv 2) (pe_op op_add (pe_op op_fdiv (pv 2) pe_int) pe_int)) pe_int))
  (pss_cons (ps_set (i:=2) scMixed.nd rfl (Or.inl rfl) (pe_op op_mod (pe_op op_mul (pv 2) (pe_op op_add (pe_op op_add (pe_op op_fdiv (pv 2) pe_int) pe_int) (pv 1))) pe_int))
  (pss_one (ps_ret (pe_op op_mod (pe_op op_mul (pv 2) (pe_op op_add (pe_op op_fdiv (pv 2) pe_int) pe_int)) pe_int))))),?_⟩
 simp [tSeq,tAsg,tRet,tOp,rI,rI0,tVar,tC,gName,L2.start,CMul,CDiv]
 refine ⟨by omega,by omega,by omega,q _ (by omega) (by omega)⟩
def spDigits:Sp:=fun vs H Q _=>∃ a,vs=[.int a]/\∀ (p:Addr) (b c d:Int),H p=none->Q (.ref p) (upd H p (.lst [.int b,.int c,.int d]))
theorem scDigits:FnScope ["_law_cell"] ["_law_cell"] (defScope sDigits):=⟨rfl,rfl,rfl,by decide +kernel,rfl,by decide +kernel,by decide +kernel⟩
theorem okDigits (G:FunG K mg "_law_digits" sDigits ["_law_cell"]):Cal P w K mg base CX0 1 "_law_digits" ["_law_cell"] spDigits:=by
 refine G.ok scDigits (fun vs H Q E h=>by obtain ⟨a,rfl,_⟩:=h;rfl) (fun f cdv A outer s H vs Q E hr h=>?_)
 obtain ⟨a,rfl,q⟩:=h
 refine ⟨_,pss_one (ps_ret (pe_lst (pa_cons (pe_op op_mul (pe_op op_fdiv (pv 0) pe_int) (pe_op op_sub pe_int (pe_op op_mod (pv 0) pe_int))) (pa_cons (pv 0) (pa_cons pe_int pa_nil))))),?_⟩
 simp [tSeq,tAsg,tRet,tOp,rI,rI0,tVar,tC,gName,L2.start,CMul,CDiv,tLst,tCons,tNil]
 refine ⟨by omega,small1000 (by decide) |> Nat.le_of_lt,fun p hp=>q p _ _ _ hp⟩
def spNext:Sp:=fun vs H Q _=>∃ (p:Addr) (a b c m:Int),vs=[.ref p,.int m]/\H p=some (.lst [.int a,.int b,.int c])/\0 < m/\m < 4611686018427387904 /\
 ∀ v a' c':Int,0 <= v->v < m->Q (.int v) (upd H p (.lst [.int a',.int b,.int c']))
theorem scNext:FnScope ["_law_source","_law_many","_law_found"] ["_law_source","_law_many"] (defScope sNext):=⟨rfl,rfl,rfl,by decide +kernel,rfl,by decide +kernel,by decide +kernel⟩
theorem okNext (G:FunG K mg "_law_next" sNext ["_law_source","_law_many"]) (CM:Cal P w K mg base CX0 1 "_law_mixed" ["_law_cell","_law_k"] spMixed):Cal P w K mg base CX0 2 "_law_next" ["_law_source","_law_many"] spNext:=by
 refine G.ok scNext (fun vs H Q E h=>by obtain ⟨p,a,b,c,m,rfl,_⟩:=h;rfl) (fun f cdv A outer s H vs Q E hr h=>?_)
 obtain ⟨p,a,b,c,m,rfl,hp,m0,m1,q⟩:=h
 refine ⟨_,pss_cons (ps_if (pt_cmpR op_gt (pe_ix ix_lstH (pv 0) pe_int (fun _ _=>rfl)) pe_int (nomark _))
   (pss_cons (ps_set (i:=2) scNext.nd rfl (Or.inl rfl) (pe_op op_mod (pe_ix ix_lstH (pv 0) pe_int (fun _ _=>rfl)) (pv 1)))
   (pss_cons (ps_asg (pe_op op_fdivB (pe_ix ix_lstH (pv 0) pe_int (fun _ _=>rfl)) (pv 1)) (pg_sub (pv 0) pe_int set_list))
   (pss_one (ps_ret (pv 2))))) pss_nil)
  (pss_cons (ps_asg (pe_op op_add (pe_ix ix_lstH (pv 0) pe_int (fun _ _=>rfl)) pe_int) (pg_sub (pv 0) pe_int set_list))
  (pss_one (ps_ret (pe_op op_mod (pe_cal CM hr (pa_cons (pe_ix ix_lstH (pv 0) pe_int (fun _ _=>rfl)) (pa_cons (pe_ix ix_lstH (pv 0) pe_int (fun _ _=>rfl)) pa_nil))) (pv 1))))),?_⟩
 simp [tSeq,tAsg,tRet,tOp,rI,rI0,tVar,tC,gName,L2.start,CMul,CDiv,tLst,tCons,tNil,tIfS,tTest,tNext,gSub,rIxH,rSetL,tCall,spMixed,hp,atI,ixN,upd_same,upd_upd]
 refine ite2 (fun h1=>⟨m0,⟨m0,m1⟩,q _ _ _ (Int.emod_nonneg _ (by omega)) (Int.emod_lt_of_pos _ m0)⟩) (fun h1 v v0 v1=>⟨m0,q _ _ _ (Int.emod_nonneg _ (by omega)) (Int.emod_lt_of_pos _ m0)⟩)
theorem scCell:FnScope ["_law_script","_law_k"] ["_law_script","_law_k"] (defScope sCell):=⟨rfl,rfl,rfl,by decide +kernel,rfl,by decide +kernel,by decide +kernel⟩
def spCell (K:PySem.W.Frag):Sp:=fun vs H Q _=>∃ (a:Addr) (ns:List Int) (k:Int),vs=[.ref a,.int k]/\SqL K H a (ns.map V.int)/\0 <= k/\∀ v:Int,Q (.int v) H
theorem okCell (G:FunG K mg "_law_cell_at" sCell ["_law_script","_law_k"]) (b_len:Blt mg "len"):Cal P w K mg base CX0 1 "_law_cell_at" ["_law_script","_law_k"] (spCell K):=by
 refine G.ok scCell (fun vs H Q E h=>by obtain ⟨a,ns,k,rfl,_⟩:=h;rfl) (fun f cdv A outer s0 H vs Q E hr h=>?_)
 obtain ⟨a,ns,k,rfl,hS,k0,q⟩:=h
 refine ⟨_,(pss_cons (ps_if (pt_cmpR op_lt (pv 1) (pe_blt call_len b_len bo_len (pa_cons (pv 0) pa_nil)) (nomark _)) (pss_one (ps_ret (pe_ix ix_list (pv 0) (pv 1) (fun _ _=>rfl)))) pss_nil)
   (pss_one (ps_ret pe_int))),?_⟩
 refine ⟨_,rfl,_,rfl,_,_,rfl,.inl ⟨_,hS,rfl⟩,_,_,rfl,rfl,_,rfl,?_⟩
 refine ite2 (fun h1=>?_) (fun h1=>q 0)
 have h1':=of_decide_eq_true h1
 obtain ⟨v,e1,e2⟩:=atI_in k0 h1'
 rw [List.getElem?_map] at e2
 cases hz:ns[k.toNat]? with
 | none=>rw [hz] at e2;cases e2
 | some z=>
  rw [hz] at e2
  have e3:V.int z=v:=Option.some.inj e2
  subst e3
  exact ⟨_,rfl,_,rfl,a,_,k,_,rfl,rfl,hS,e1,q z⟩
theorem scNames:FnScope ["_law_source","_law_many","_law_letters","_law_start","_law_stem"] ["_law_source","_law_many"] (defScope sNames):=⟨rfl,rfl,rfl,by decide +kernel,rfl,by decide +kernel,by decide +kernel⟩
theorem stem_turns {xs:List Str} {te:TE} {n:Nat} {σ:St} {H1:Hp} {Q:VK} {acc p:Addr} {ix:List Nat} {rest:List (Option V)} (hn:n <= 100) (hs:Src H1 p) (ha:H1 acc=none)
  (hσ:stC xs ix σ=none :: rest)
  (ht:∀ (k:V) (H2:Hp) (R:VK),Src H2 p->(∀ (ch:Nat) (H3:Hp),ch ∈ abc.cps.toList->Keep [p] H2 H3->Src H3 p->R (.str ⟨#[ch]⟩) H3)->te (some k :: rest) H2 R)
  (q:∀ (zs:List Str) (H2:Hp),zs.length=n->(∀ z ∈ zs,LowS z/\z.length=1)->Keep [p] H1 H2->Src H2 p->H2 acc=some (.lst (zs.map V.str))->Q (.ref acc) H2) :
  LCW (Itr 0 n) xs ix (gName 0) tYes te σ H1 acc Q:=by
 have pa:acc ≠ p:=by
  obtain ⟨a,b,c,h⟩:=hs
  exact Ne.symm (ne_of_none h ha)
 refine lc_range0 (by rw [sizeLine_eq];omega) (fun i ys τ H2=>∃ (zs:List Str) (k:Option V),τ=k :: rest/\ys=zs.map V.str/\zs.length=i/\(∀ z ∈ zs,LowS z/\z.length=1)/\Keep [acc,p] H1 H2/\Src H2 p/\H2 acc=some (.lst ys)) ?_ ?_ ?_ ?_
 ·obtain ⟨a,b,c,h⟩:=hs
  exact ⟨[],none,hσ,rfl,rfl,(fun z hz=>by cases hz),Keep.at (by simp),⟨a,b,c,by rw [upd_ne (Ne.symm pa)];exact h⟩,upd_same⟩
 ·rintro i ys τ H2 ⟨zs,k,rfl,rfl,hl,_,_,_,h2⟩
  exact ⟨h2,by rw [List.length_map];omega⟩
 ·rintro i ys τ H2 hi ⟨zs,k,rfl,rfl,hl,h1,kp,hs2,h2⟩
  refine ht _ H2 _ hs2 fun ch H3 hc k3 hz55=>?_
  obtain ⟨a,b,c,hs3⟩:=hz55
  refine ⟨k3 _ _ (by simp [pa]) h2,zs ++ [⟨#[ch]⟩],_,rfl,by simp,by simp [hl],?_,(kp.trans (k3.mono (by simp))).trans (Keep.at (by simp)),⟨a,b,c,by rw [upd_ne (Ne.symm pa)];exact hs3⟩,upd_same⟩
  intro z hz
  rcases List.mem_append.mp hz with z1 | z1
  ·exact h1 z z1
  ·rw [List.mem_singleton.mp z1];exact ⟨low_one hc,rfl⟩
 ·rintro ys τ H2 ⟨zs,k,rfl,rfl,hl,h1,kp,hs2,h2⟩
  exact q zs H2 hl h1 (kp.drop ha) hs2 h2
theorem sum_low (zs:List Str) (h:∀ z ∈ zs,LowS z/\z.length=1):(zs.map (·.length)).sum=zs.length:=sum_ones zs fun z hz=>(h z hz).2
def GoodN (z:Str):Prop:=nameS z=true/\z.length <= 8
def spNames:Sp:=fun vs H Q _=>∃ (p:Addr) (m:Int),vs=[.ref p,.int m]/\Src H p/\0 <= m/\m <= 26 /\
 ∀ (r:Addr) (zs:List Str) (H':Hp),H r=none->H' r=some (.lst (zs.map V.str))->zs.length=m.toNat->(∀ z ∈ zs,GoodN z)->Keep [p] H H'->Src H' p->Q (.ref r) H'
theorem okNames (G:FunG K mg "_law_names" sNames ["_law_source","_law_many"]) (CN:Cal P w K mg base CX0 2 "_law_next" ["_law_source","_law_many"] spNext) (b_range:Blt mg "range"):Cal P w K mg base CX0 3 "_law_names" ["_law_source","_law_many"] spNames:=by
 refine G.ok scNames (fun vs H Q E h=>by obtain ⟨p,m,rfl,_⟩:=h;rfl) (fun f cdv A outer s0 H vs Q E hr h=>?_)
 obtain ⟨p,m,rfl,⟨a,b,c,hp⟩,m0,m1,q⟩:=h
 have hr2:Room 2 _:=hr.mono (by decide)
 refine ⟨_,(pss_cons (ps_set (i:=2) scNames.nd rfl (Or.inr rfl) pe_str)
   (pss_cons (ps_set (i:=3) scNames.nd rfl (Or.inr rfl) (pe_cal CN hr2 (pa_cons (pv 0) (pa_cons pe_int pa_nil))))
   (pss_cons (ps_set (i:=4) scNames.nd rfl (Or.inr rfl) (pe_bm PySem.F.plainAttrs_str PySem.F.slot_str_join PySem.F.type_str_join mt_join pe_str (pa_cons (pe_lc1 (N:=["_law_source","_law_many","_law_letters","_law_start","_law_stem"]) (sc:=defScope sNames) (ix:=[2,0]) (by decide +kernel) (pi_range1 rfl b_range.no (pa_cons pe_int pa_nil)) (fun _ _ _ _=>pts_nil) (fun _ _ _ _=>(pe_ix ix_str (pv 1) (pe_cal CN hr2 (pa_cons (pv 2) (pa_cons pe_int pa_nil))) (fun _ _=>rfl)))) pa_nil)))
   (pss_one (ps_ret (pe_lc1 (N:=["_law_source","_law_many","_law_letters","_law_start","_law_stem"]) (sc:=defScope sNames) (ix:=[4,2,0,3]) (by decide +kernel) (pi_range1 rfl b_range.no (pa_cons (pv 1) pa_nil)) (fun _ _ _ _=>pts_nil) (fun _ _ _ _=>(pe_op op_add_str (pe_slice sl_str (pv 1) po_none (po_some (pe_cal CN hr2 (pa_cons (pv 3) (pa_cons pe_int pa_nil))))) (pe_ix ix_str (pv 2) (pe_op op_mod (pe_op op_add (pv 4) (pv 0)) pe_int) (fun _ _=>rfl)))))))))),?_⟩
 refine ⟨_,rfl,p,a,b,c,26,rfl,hp,by decide,by decide,fun st a1 c1 st0 st1=>?_⟩
 have k1:Keep [p] H (upd H p (.lst [.int a1,.int b,.int c1])):=Keep.at (by simp)
 generalize hH1:upd H p (.lst [.int a1,.int b,.int c1])=H1 at k1 ⊢
 have s1:Src H1 p:=⟨a1,b,c1,by rw [<- hH1];exact upd_same⟩
 refine ⟨rfl,7,rfl,by decide,by decide,fun acc ha=>?_⟩
 refine stem_turns (p:=p) (by decide) s1 ha rfl (fun k H2 R ⟨a2,b2,c2,hs⟩ R'=>?_) ?_
 ·refine ⟨_,rfl,_,rfl,p,a2,b2,c2,26,rfl,hs,by decide,by decide,fun v2 a3 c3 w0 w1=>?_⟩
  obtain ⟨ch,hc1,hc2⟩:=atI_in (xs:=abc.cps.toList) w0 (show v2 < ((26:Nat):Int) from w1)
  exact ⟨_,v2,ch,rfl,rfl,by decide,hc1,R' ch _ (List.mem_of_getElem? hc2) (Keep.at (by simp)) ⟨a3,b2,c3,upd_same⟩⟩
 intro zs H2 hzl hz k2 s2 h2
 refine ⟨"",acc,zs,rfl,rfl,.of h2,by rw [sum_low zs hz,hzl];decide,?_⟩
 have hstem:LowS (Txt.join (Str.ofString "") zs):=low_join zs fun z h=>(hz z h).1
 have lstem:(Txt.join (Str.ofString "") zs).length=7:=by rw [join_len,sum_low zs hz,hzl];rfl
 generalize Txt.join (Str.ofString "") zs=stem at hstem lstem ⊢
 refine ⟨_,rfl,m,rfl,by omega,by omega,fun acc2 ha2=>?_⟩
 have pa:acc2 ≠ p:=by
  obtain ⟨x,y,z,h⟩:=s2
  exact Ne.symm (ne_of_none h ha2)
 have na:H acc2=none:=k1.none (by simp [pa]) (k2.none (by simp [pa]) ha2)
 refine lc_range0 (by rw [sizeLine_eq];omega) (fun i ys τ H3=>∃ (ws:List Str) (k:Option V),τ=k :: [some (.str stem),some (.str abc),some (.ref p),some (.int st)]/\ys=ws.map V.str/\ws.length=i/\(∀ z ∈ ws,GoodN z)/\Keep [acc2,p] H2 H3/\Src H3 p/\H3 acc2=some (.lst ys)) ?_ ?_ ?_ ?_
 ·obtain ⟨x,y,z,h⟩:=s2
  exact ⟨[],none,rfl,rfl,rfl,(fun z hz=>by cases hz),Keep.at (by simp),⟨x,y,z,by rw [upd_ne (Ne.symm pa)];exact h⟩,upd_same⟩
 ·rintro i ys τ H3 ⟨ws,k,rfl,rfl,hl,_,_,_,h3⟩
  exact ⟨h3,by rw [List.length_map];omega⟩
 ·rintro i ys τ H3 hi ⟨ws,k,rfl,rfl,hl,h1,kp,⟨a2,b2,c2,hs⟩,h3⟩
  refine ⟨_,rfl,_,rfl,p,a2,b2,c2,8,rfl,hs,by decide,by decide,fun v a3 c3 v0 v1=>⟨v,rfl,stem,rfl,by rw [lstem,sizeLine_eq];decide,?_⟩⟩
  refine ⟨_,rfl,_,rfl,_,rfl,_,_,rfl,rfl,_,_,rfl,rfl,(by show (0:Int) < 26;decide),?_⟩
  have g0:0 <= (st + (0 + (i:Int))) % 26:=Int.emod_nonneg _ (by decide)
  have g1:(st + (0 + (i:Int))) % 26 < 26:=Int.emod_lt_of_pos _ (by decide)
  obtain ⟨ch,hc1,hc2⟩:=atI_in (xs:=abc.cps.toList) g0 (show (st + (0 + (i:Int))) % 26 < ((26:Nat):Int) from g1)
  have e1:=Txt.slice_le stem none (some v)
  refine ⟨_,_,ch,rfl,rfl,by decide,hc1,_,_,rfl,rfl,by rw [sizeLine_eq];show _ + 1 <= _;omega,?_⟩
  refine ⟨by rw [upd_ne pa];exact h3,ws ++ [Txt.slice stem none (some v) ++ ⟨#[ch]⟩],_,rfl,by simp,by simp [hl],?_,(kp.trans (Keep.at (by simp))).trans (Keep.at (by simp)),⟨a3,b2,c3,by rw [upd_ne (Ne.symm pa),upd_same]⟩,upd_same⟩
  intro z hz
  rcases List.mem_append.mp hz with z1 | z1
  ·exact h1 z z1
  ·rw [List.mem_singleton.mp z1]
   have el:(Txt.slice stem none (some v) ++ (⟨#[ch]⟩:Str)).length=(Txt.slice stem none (some v)).length + 1:=by rw [len_app];rfl
   exact ⟨name_of (low_app (low_slice hstem _ _) (low_one (List.mem_of_getElem? hc2))) (by omega) (by omega),by omega⟩
 ·rintro ys τ H3 ⟨ws,k,rfl,rfl,hl,h1,kp,hs3,h3⟩
  exact q acc2 ws H3 na h3 hl h1 ((k1.trans k2).trans (kp.drop ha2)) hs3
end
section
variable {P:Program} {w:World} {K:PySem.W.Frag} {mg:Str->Option Value} {base:Heap} {C:Addr}
theorem scTold:FnScope ["_law_seat"] ["_law_seat"] (defScope sTold):=⟨rfl,rfl,rfl,by decide +kernel,rfl,by decide +kernel,by decide +kernel⟩
theorem fl_ar (a:V) (wl:Addr) (h:V) (k:Bool):(flds a wl h k).lookup ("arrow" : Str)=none:=fl_no a wl h k (by decide +kernel) (by decide +kernel) (by decide +kernel) (by decide +kernel)
theorem fl_ro (a:V) (wl:Addr) (h:V) (k:Bool):(flds a wl h k).lookup ("row" : Str)=none:=fl_no a wl h k (by decide +kernel) (by decide +kernel) (by decide +kernel) (by decide +kernel)
theorem fl_in (a:V) (wl:Addr) (h:V) (k:Bool):(flds a wl h k).lookup ("inside" : Str)=none:=fl_no a wl h k (by decide +kernel) (by decide +kernel) (by decide +kernel) (by decide +kernel)
theorem fl_ha (a:V) (wl:Addr) (h:V) (k:Bool):(flds a wl h k).lookup ("has_asked" : Str)=none:=fl_no a wl h k (by decide +kernel) (by decide +kernel) (by decide +kernel) (by decide +kernel)
theorem fl_wa (a:V) (wl:Addr) (h:V) (k:Bool):(flds a wl h k).lookup ("want" : Str)=none:=fl_no a wl h k (by decide +kernel) (by decide +kernel) (by decide +kernel) (by decide +kernel)
theorem fl_le (a:V) (wl:Addr) (h:V) (k:Bool):(flds a wl h k).lookup ("leave" : Str)=none:=fl_no a wl h k (by decide +kernel) (by decide +kernel) (by decide +kernel) (by decide +kernel)
theorem fl_do (a:V) (wl:Addr) (h:V) (k:Bool):(flds a wl h k).lookup ("done" : Str)=none:=fl_no a wl h k (by decide +kernel) (by decide +kernel) (by decide +kernel) (by decide +kernel)
def spTold (C:Addr):Sp:=fun vs H Q _=>∃ (p wl:Addr) (s:SS),vs=[.ref p]/\SeatAt C H p wl s /\
 ∀ (r t:Addr) (H':Hp),H r=none->H t=none->H' r=some (.lst [optV s.ptr,.ref t,optV s.hold,.bl s.asked])->Rows H' t (s.row.map rowV)->Keep [] H H'->Q (.ref r) H'
theorem okTold (T:SeatT K C) (G:FunG K mg "_law_told" sTold ["_law_seat"]) (MA:MCal P w K mg base CX0 1 C "arrow" ["self"] (spArrow C)) (MR:MCal P w K mg base CX0 1 C "row" ["self"] (spRow C)) (MI:MCal P w K mg base CX0 1 C "inside" ["self"] (spInside C)) (MH:MCal P w K mg base CX0 1 C "has_asked" ["self"] (spHas C)) :
  Cal P w K mg base CX0 2 "_law_told" ["_law_seat"] (spTold C):=by
 refine G.ok scTold (fun vs H Q E h=>by obtain ⟨p,wl,s,rfl,_⟩:=h;rfl) (fun f cdv A outer s0 H vs Q E hr h=>?_)
 obtain ⟨p,wl,s,rfl,S,q⟩:=h
 have hr1:Room 1 _:=hr.mono (by decide)
 obtain ⟨dx,hob⟩:=S.ob
 refine ⟨_,(pss_one (ps_ret (pe_lst (pa_cons (pe_mth0 MA T.cl hr1 (pv 0)) (pa_cons (pe_mth0 MR T.cl hr1 (pv 0)) (pa_cons (pe_mth0 MI T.cl hr1 (pv 0)) (pa_cons (pe_mth0 MH T.cl hr1 (pv 0)) pa_nil))))))),?_⟩
 refine ⟨_,rfl,p,dx,_,rfl,hob,fl_ar _ _ _ _,p,wl,s,rfl,S,?_⟩
 refine ⟨_,rfl,p,dx,_,rfl,hob,fl_ro _ _ _ _,p,wl,s,rfl,S,fun t H1 ht R1 k1=>?_⟩
 have hob1:=k1 _ _ (by simp) hob
 refine ⟨_,rfl,p,dx,_,rfl,hob1,fl_in _ _ _ _,p,wl,s,rfl,S.keep k1,?_⟩
 refine ⟨_,rfl,p,dx,_,rfl,hob1,fl_ha _ _ _ _,p,wl,s,rfl,S.keep k1,by show 4 <= sizeLine;decide,fun r hr'=>?_⟩
 exact q r t _ (k1.none (by simp) hr') ht upd_same (R1.keep (Keep.new hr')) (k1.trans (Keep.new hr'))
theorem fl_as (a:V) (wl:Addr) (h:V) (k:Bool):(flds a wl h k).lookup ("ask" : Str)=none:=fl_no a wl h k (by decide +kernel) (by decide +kernel) (by decide +kernel) (by decide +kernel)
theorem fl_co (a:V) (wl:Addr) (h:V) (k:Bool):(flds a wl h k).lookup ("come" : Str)=none:=fl_no a wl h k (by decide +kernel) (by decide +kernel) (by decide +kernel) (by decide +kernel)
def GN (N:List Str) (z:Str):Prop:=z ∈ N/\GoodN z
inductive DD where
 | want (z:Str)
 | leave (z:Str)
 | done (z:Str)
 | ask (z:Str)
 | come (z:Str) (b:Bool)
def deedV:DD->List V
 | .want z=>[.str "want",.str z]
 | .leave z=>[.str "leave",.str z]
 | .done z=>[.str "done",.str z]
 | .ask z=>[.str "ask",.str z]
 | .come z b=>[.str "come",.str z,.bl b]
def behindF (row:List (Str × Str)):DD->List (Str × Str)
 | .want z=>row ++ [askR z]
 | .leave z=>row.filter fun x=>decide (x ≠ askR z)
 | .done _=>row
 | .ask z=>row ++ [hsR z]
 | .come z b=>if b then row ++ [hsR z] else row
def deedF (s:SS):DD->SS
 | .want z=>{ s with row:=s.row ++ [askR z] }
 | .leave z=>{ s with row:=s.row.filter fun x=>decide (x ≠ askR z) }
 | .done _=>{ s with hold:=none }
 | .ask z=>{ s with row:=s.row ++ [hsR z] }
 | .come z b=>comeF s z b
def DeedOk (N:List Str) (s:SS):DD->Prop
 | .want z=>s.hold ≠ some z/\askR z ∉ s.row/\GN N z
 | .leave z=>askR z ∈ s.row
 | .done z=>s.hold=some z
 | .ask z=>s.ptr ≠ some z/\hsR z ∉ s.row/\GN N z
 | .come z _=>s.ptr=some z
structure SInv (N:List Str) (s:SS):Prop where
 p:∀ z,s.ptr=some z->GN N z
 h:∀ z,s.hold=some z->GN N z
 r:∀ x ∈ s.row,(x.1="asker" \/ x.1="house")/\GN N x.2
 u:∀ z,s.row.count (askR z) <= 1
theorem deedF_row (s:SS) (d:DD):(deedF s d).row=behindF s.row d:=by cases d <;> rfl
theorem ne_kind (y z:Str):hsR y ≠ askR z:=by
 intro e
 have e1:("house" : Str)="asker":=congrArg Prod.fst e
 exact absurd e1 (by decide +kernel)
theorem count_app_ne {l:List (Str × Str)} {x a:Str × Str} (h:x ≠ a):(l ++ [x]).count a=l.count a:=by
 rw [List.count_append,List.count_cons,List.count_nil]
 have:(x == a)=false:=by simpa using h
 rw [this];simp
theorem SInv.more {N:List Str} {s:SS} (I:SInv N s) {x:Str × Str} (hx:(x.1="asker" \/ x.1="house")/\GN N x.2) (hn:∀ z,x=askR z->x ∉ s.row):SInv N { s with row:=s.row ++ [x] }:=by
 refine ⟨I.p,I.h,fun y hy=>?_,fun z=>?_⟩
 ·rcases List.mem_append.mp hy with q | q
  ·exact I.r y q
  ·rw [List.mem_singleton.mp q];exact hx
 ·by_cases e:x=askR z
  ·have h0:s.row.count (askR z)=0:=List.count_eq_zero.mpr (by rw [<- e];exact hn z e)
   show (s.row ++ [x]).count (askR z) <= 1
   rw [List.count_append,h0,e]
   simp
  ·show (s.row ++ [x]).count (askR z) <= 1
   rw [count_app_ne e];exact I.u z
theorem SInv.sub {N:List Str} {s s':SS} (I:SInv N s) (hp:∀ z,s'.ptr=some z->GN N z) (hh:∀ z,s'.hold=some z->GN N z) (hs:List.Sublist s'.row s.row):SInv N s':=
 ⟨hp,hh,fun x hx=>I.r x (hs.subset hx),fun z=>Nat.le_trans (hs.count_le _) (I.u z)⟩
theorem deed_inv {N:List Str} {s:SS} (I:SInv N s):∀ {d:DD},DeedOk N s d->SInv N (deedF s d)
 | .want z,h=>I.more ⟨.inl rfl,h.2.2⟩ fun _ _=>h.2.1
 | .leave z,_=>I.sub I.p I.h List.filter_sublist
 | .done z,_=>I.sub I.p (fun z e=>by cases e) (List.Sublist.refl _)
 | .ask z,h=>I.more ⟨.inr rfl,h.2.2⟩ fun y e=>absurd e (ne_kind z y)
 | .come z b,h=>by
  have g:=I.p z h
  have I0:SInv N { s with ptr:=none,asked:=false }:=I.sub (fun z e=>by cases e) I.h (List.Sublist.refl _)
  cases b with
  | false=>exact I0
  | true=>exact I0.more (x:=hsR z) ⟨.inr rfl,g⟩ fun y e=>absurd e (ne_kind z y)
theorem move_inv {N:List Str} {s:SS} (I:SInv N s):SInv N (moveF s).1:=by
 unfold moveF
 split
 ·exact I
 ·split
  ·split
   ·rename_i hne _ _ hh
    unfold serveF
    split
    ·exact I
    ·rename_i k n rest er
     have hm:(k,n) ∈ s.row:=by rw [er];simp
     have gn:=(I.r _ hm).2
     have hsub:List.Sublist rest s.row:=by rw [er];exact List.sublist_cons_self _ _
     split
     ·exact I.sub I.p (fun z e=>by cases e;exact gn) hsub
     ·exact I.sub (fun z e=>by cases e;exact gn) I.h hsub
   ·exact I
  ·split
   ·exact I
   ·exact I.sub I.p I.h (List.Sublist.refl _)
theorem behind_len (row:List (Str × Str)) (d:DD):(behindF row d).length <= row.length + 1:=by
 cases d with
 | want z=>simp [behindF]
 | leave z=>exact Nat.le_trans (List.length_filter_le _ _) (Nat.le_succ _)
 | done z=>exact Nat.le_succ _
 | ask z=>simp [behindF]
 | come z b=>cases b <;> simp [behindF]
theorem move_len (s:SS):(moveF s).1.row.length <= s.row.length:=by
 unfold moveF
 split
 ·exact Nat.le_refl _
 ·split
  ·split
   ·unfold serveF
    split
    ·exact Nat.le_refl _
    ·rename_i k n rest er
     split <;> (show rest.length <= s.row.length;rw [er];simp)
   ·exact Nat.le_refl _
  ·split <;> exact Nat.le_refl _
theorem move_due (s:SS):(∀ r ∈ (moveF s).2,r.all flatV=true/\r.length <= 2000)/\(moveF s).2.length <= 2000:=by
 unfold moveF
 split
 ·exact ⟨fun r hr=>absurd hr List.not_mem_nil,Nat.zero_le _⟩
 ·split
  ·split
   ·unfold serveF
    split
    ·exact ⟨fun r hr=>by rw [List.mem_singleton.mp hr];exact ⟨rfl,Nat.zero_le _⟩,by show 1 <= 2000;decide⟩
    ·split
     ·exact ⟨fun r hr=>by rw [List.mem_singleton.mp hr];exact ⟨rfl,by show 2 <= 2000;decide⟩,by show 1 <= 2000;decide⟩
     ·exact ⟨fun r hr=>by rw [List.mem_singleton.mp hr];exact ⟨rfl,by show 3 <= 2000;decide⟩,by show 1 <= 2000;decide⟩
   ·exact ⟨fun r hr=>absurd hr List.not_mem_nil,Nat.zero_le _⟩
  ·split
   ·exact ⟨fun r hr=>absurd hr List.not_mem_nil,Nat.zero_le _⟩
   ·exact ⟨fun r hr=>by rw [List.mem_singleton.mp hr];exact ⟨rfl,by show 2 <= 2000;decide⟩,by show 1 <= 2000;decide⟩
theorem filter_erase:∀ (l:List (Str × Str)) (a:Str × Str) (j:Nat),l[j]?=some a->(∀ m:Nat,m < j->l[m]? ≠ some a)->l.count a <= 1->l.filter (fun x=>decide (x ≠ a))=l.eraseIdx j
 | [],a,j,h,_,_=>by simp at h
 | y :: l,a,0,h,_,hc=>by
  have e:y=a:=by simpa using h
  subst e
  have h0:l.count y=0:=by
   rw [List.count_cons_self] at hc;omega
  have hn:y ∉ l:=List.count_eq_zero.mp h0
  rw [List.filter_cons]
  simp only [ne_eq,not_true_eq_false,decide_false,Bool.false_eq_true,if_false,List.eraseIdx_zero,List.tail_cons]
  exact List.filter_eq_self.mpr fun x hx=>decide_eq_true fun e=>hn (e ▸ hx)
 | y :: l,a,j + 1,h,hno,hc=>by
  have ne:y ≠ a:=fun e=>hno 0 (by omega) (by simp [e])
  have hc':l.count a <= 1:=Nat.le_trans (List.Sublist.count_le _ (List.sublist_cons_self y l)) hc
  rw [List.filter_cons,if_pos (decide_eq_true ne),filter_erase l a j (by simpa using h) (fun m hm e=>hno (m + 1) (by omega) (by simpa using e)) hc']
  rfl
theorem deed_in {N:List Str} {s:SS} (I:SInv N s):∀ {d:DD},DeedOk N s d->GN N (match d with | .want z=>z | .leave z=>z | .done z=>z | .ask z=>z | .come z _=>z)
 | .want _,h=>h.2.2
 | .leave _,h=>(I.r _ h).2
 | .done _,h=>I.h _ h
 | .ask _,h=>h.2.2
 | .come _ _,h=>I.p _ h
end
abbrev sPut:Stmt:=top 35
abbrev sAsked:Stmt:=top 40
inductive GD where
 | want (x:V)
 | leave (x:V)
 | done (x:V)
 | ask (x:V)
 | come (x y:V)
def gdV:GD->List V
 | .want x=>[.str "want",x]
 | .leave x=>[.str "leave",x]
 | .done x=>[.str "done",x]
 | .ask x=>[.str "ask",x]
 | .come x y=>[.str "come",x,y]
def GD.nm:GD->V
 | .want x=>x
 | .leave x=>x
 | .done x=>x
 | .ask x=>x
 | .come x _=>x
def GD.bk:GD->V
 | .come _ y=>y
 | _=>.non
def GD.cls:GD->Nat
 | .want _=>3
 | .leave _=>3
 | .done _=>3
 | .ask _=>1
 | .come _ _=>1
def DD.nm:DD->Str
 | .want z=>z
 | .leave z=>z
 | .done z=>z
 | .ask z=>z
 | .come z _=>z
def gdOf:DD->GD
 | .want z=>.want (.str z)
 | .leave z=>.leave (.str z)
 | .done z=>.done (.str z)
 | .ask z=>.ask (.str z)
 | .come z b=>.come (.str z) (.bl b)
theorem gd_deed (d:DD):gdV (gdOf d)=deedV d:=by cases d <;> rfl
theorem gd_nm (d:DD):(gdOf d).nm=.str d.nm:=by cases d <;> rfl
def isB:V->Bool
 | .bl _=>true
 | _=>false
inductive Res where
 | told (d:DD)
 | bad (i:Nat)
inductive Ver (N:List Str) (s:SS):GD->Res->Prop
 | odd (g:GD):nameV g.nm=false->Ver N s g (.bad g.cls)
 | told (d:DD) {g:GD}:g=gdOf d->GN N d.nm->DeedOk N s d->Ver N s g (.told d)
 | want {z:Str}:GN N z->(s.hold=some z \/ askR z ∈ s.row)->Ver N s (.want (.str z)) (.bad 3)
 | leave {z:Str}:GN N z->askR z ∉ s.row->Ver N s (.leave (.str z)) (.bad 3)
 | done {z:Str}:GN N z->s.hold ≠ some z->Ver N s (.done (.str z)) (.bad 3)
 | ask {z:Str}:GN N z->(s.ptr=some z \/ hsR z ∈ s.row)->Ver N s (.ask (.str z)) (.bad 4)
 | come {z:Str} {y:V}:GN N z->s.ptr ≠ some z->Ver N s (.come (.str z) y) (.bad 4)
 | back {z:Str} {y:V}:GN N z->s.ptr=some z->isB y=false->Ver N s (.come (.str z) y) (.bad 4)
theorem ver_total (N:List Str) (s:SS) (g:GD) (h:nameV g.nm=false \/ ∃ z,g.nm=.str z/\GN N z):∃ r,Ver N s g r:=by
 rcases h with h | ⟨z,e,gz⟩
 ·exact ⟨_,.odd g h⟩
 ·cases g with
  | want x=>
   obtain rfl:x=.str z:=e
   by_cases h1:s.hold=some z
   ·exact ⟨_,.want gz (.inl h1)⟩
   ·by_cases h2:askR z ∈ s.row
    ·exact ⟨_,.want gz (.inr h2)⟩
    ·exact ⟨_,.told (.want z) rfl gz ⟨h1,h2,gz⟩⟩
  | leave x=>
   obtain rfl:x=.str z:=e
   by_cases h2:askR z ∈ s.row
   ·exact ⟨_,.told (.leave z) rfl gz h2⟩
   ·exact ⟨_,.leave gz h2⟩
  | done x=>
   obtain rfl:x=.str z:=e
   by_cases h1:s.hold=some z
   ·exact ⟨_,.told (.done z) rfl gz h1⟩
   ·exact ⟨_,.done gz h1⟩
  | ask x=>
   obtain rfl:x=.str z:=e
   by_cases h1:s.ptr=some z
   ·exact ⟨_,.ask gz (.inl h1)⟩
   ·by_cases h2:hsR z ∈ s.row
    ·exact ⟨_,.ask gz (.inr h2)⟩
    ·exact ⟨_,.told (.ask z) rfl gz ⟨h1,h2,gz⟩⟩
  | come x y=>
   obtain rfl:x=.str z:=e
   by_cases h1:s.ptr=some z
   ·by_cases h2:isB y=true
    ·obtain ⟨b,rfl⟩:∃ b,y=.bl b:=by cases y <;> first | exact ⟨_,rfl⟩ | cases h2
     exact ⟨_,.told (.come z b) rfl gz h1⟩
    ·exact ⟨_,.back gz h1 (by simpa using h2)⟩
   ·exact ⟨_,.come gz h1⟩
structure PG (K:PySem.W.Frag) (H:Hp) (g:GD):Prop where
 pn:∃ T,PlainT K H g.nm T
 sz:∀ z,g.nm=.str z->z.length <= 1000
 pb:∃ T,PlainT K H g.bk T
theorem PG.keep {K:PySem.W.Frag} {H H':Hp} {g:GD} (p:PG K H g) (k:Keep [] H H'):PG K H' g:=by
 obtain ⟨T,h1⟩:=p.pn
 obtain ⟨T2,h2⟩:=p.pb
 exact ⟨⟨T,h1.keep k⟩,p.sz,⟨T2,h2.keep k⟩⟩
theorem plain_nb {K:PySem.W.Frag} {H:Hp} {y:V} {T:String} (p:PlainT K H y T) (h:isB y=false):T ≠ "bool":=by
 cases p <;> first | decide | (cases h)
section
variable {P:Program} {w:World} {K:PySem.W.Frag} {mg:Str->Option Value} {base:Heap} {C:Addr}
abbrev sKinds:Stmt:=top 30
theorem bo_ValueError:bootBuiltins "ValueError"=some (.type "ValueError"):=by decide +kernel
structure Kn (K:PySem.W.Frag) (mg:Str->Option Value) (cs:Nat->Addr):Prop where
 g0:Glo mg "NoTree" (.ref (cs 0))
 g1:Glo mg "NoHouse" (.ref (cs 1))
 g2:Glo mg "NoSeat" (.ref (cs 2))
 g3:Glo mg "NoAsker" (.ref (cs 3))
 g4:Glo mg "NoLetter" (.ref (cs 4))
 g5:Glo mg "NoRight" (.ref (cs 5))
 g6:Glo mg "NoRow" (.ref (cs 6))
 g7:Glo mg "NoTie" (.ref (cs 7))
 g8:Glo mg "Down" (.ref (cs 8))
 g9:Glo mg "NoMend" (.ref (cs 9))
 g10:Glo mg "NoText" (.ref (cs 10))
 g11:Glo mg "NoLine" (.ref (cs 11))
 kd:∀ i j,i < 12->j < 12->PySem.W.kitOne K (.ref (cs i)) (.ref (cs j))=some (decide (i=j))
 kv:∀ i,i < 12->PySem.W.kitOne K (.ref (cs i)) (.type "ValueError")=some true
 ke:∀ i,i < 12->ExcK K (cs i)
def words:List Str:=["tree","house","seat","asker","letter","right","row","tie","down","mend","text","line"]
def wordOf (i:Nat):Str:=words.getD i ""
theorem word_at {i:Nat} (hi:i < 12):(words.map V.str)[i]?=some (.str (wordOf i)):=by
 have e:words.length=12:=rfl
 rw [List.getElem?_map,List.getElem?_eq_getElem (by rw [e];exact hi)]
 unfold wordOf
 rw [List.getD_eq_getElem?_getD,List.getElem?_eq_getElem (by rw [e];exact hi)];rfl
def flags (d:Nat->Bool):List V:=[.bl (d 0),.bl (d 1),.bl (d 2),.bl (d 3),.bl (d 4),.bl (d 5),.bl (d 6),.bl (d 7),.bl (d 8),.bl (d 9),.bl (d 10),.bl (d 11)]
theorem flag_at {d:Nat->Bool} {j:Nat} (hj:j < 12):(flags d)[j]?=some (.bl (d j)):=by
 have e:flags d=(List.range 12).map fun j=>V.bl (d j):=rfl
 rw [e,List.getElem?_map,List.getElem?_range hj];rfl
theorem scKinds:FnScope ["_law_e","_law_kinds_here","_law_words","_law_found"] ["_law_e"] (defScope sKinds):=⟨rfl,rfl,rfl,by decide +kernel,rfl,by decide +kernel,by decide +kernel⟩
def spKindsH (cs:Nat->Addr):SpH:=fun hx vs H Q=>∃ (i:Nat),vs=[.ref hx]/\i < 12/\H hx=some (excO (cs i) hx)/\∀ H',Keep [] H H'->Q (.str (wordOf i)) H'
theorem okKindsH {cs:Nat->Addr} (kn:Kn K mg cs) (G:FunG K mg "_law_kinds" sKinds ["_law_e"]) (b_isinstance:Blt mg "isinstance") (b_len:Blt mg "len") (b_range:Blt mg "range") (b_ValueError:Blt mg "ValueError") :
  CalH P w K mg base 1 "_law_kinds" ["_law_e"] (spKindsH cs):=by
 refine G.okH scKinds (fun hx vs H Q h=>by obtain ⟨i,rfl,_⟩:=h;rfl) (fun f hx cdv A outer s0 H vs Q hh h=>?_)
 obtain ⟨i,rfl,hi,ha,q⟩:=h
 obtain ⟨a,ea⟩:∃ a,a=hx:=⟨_,rfl⟩
 subst ea
 refine ⟨_,(pss_cons (ps_set (i:=1) scKinds.nd rfl (Or.inr rfl) (pe_lst (pa_cons (pe_blt (call_isE (D:=cs 0)) b_isinstance bo_isinstance (pa_cons (pv 0) (pa_cons (pe_glo kn.g0) pa_nil))) (pa_cons (pe_blt (call_isE (D:=cs 1)) b_isinstance bo_isinstance (pa_cons (pv 0) (pa_cons (pe_glo kn.g1) pa_nil))) (pa_cons (pe_blt (call_isE (D:=cs 2)) b_isinstance bo_isinstance (pa_cons (pv 0) (pa_cons (pe_glo kn.g2) pa_nil))) (pa_cons (pe_blt (call_isE (D:=cs 3)) b_isinstance bo_isinstance (pa_cons (pv 0) (pa_cons (pe_glo kn.g3) pa_nil))) pa_nil))))))
   (pss_cons (ps_set (i:=1) scKinds.nd rfl (Or.inr rfl) (pe_op op_cat (pv 1) (pe_lst (pa_cons (pe_blt (call_isE (D:=cs 4)) b_isinstance bo_isinstance (pa_cons (pv 0) (pa_cons (pe_glo kn.g4) pa_nil))) (pa_cons (pe_blt (call_isE (D:=cs 5)) b_isinstance bo_isinstance (pa_cons (pv 0) (pa_cons (pe_glo kn.g5) pa_nil))) (pa_cons (pe_blt (call_isE (D:=cs 6)) b_isinstance bo_isinstance (pa_cons (pv 0) (pa_cons (pe_glo kn.g6) pa_nil))) (pa_cons (pe_blt (call_isE (D:=cs 7)) b_isinstance bo_isinstance (pa_cons (pv 0) (pa_cons (pe_glo kn.g7) pa_nil))) pa_nil)))))))
   (pss_cons (ps_set (i:=1) scKinds.nd rfl (Or.inr rfl) (pe_op op_cat (pv 1) (pe_lst (pa_cons (pe_blt (call_isE (D:=cs 8)) b_isinstance bo_isinstance (pa_cons (pv 0) (pa_cons (pe_glo kn.g8) pa_nil))) (pa_cons (pe_blt (call_isE (D:=cs 9)) b_isinstance bo_isinstance (pa_cons (pv 0) (pa_cons (pe_glo kn.g9) pa_nil))) (pa_cons (pe_blt (call_isE (D:=cs 10)) b_isinstance bo_isinstance (pa_cons (pv 0) (pa_cons (pe_glo kn.g10) pa_nil))) (pa_cons (pe_blt (call_isE (D:=cs 11)) b_isinstance bo_isinstance (pa_cons (pv 0) (pa_cons (pe_glo kn.g11) pa_nil))) pa_nil)))))))
   (@pss_cons _ _ _ _ _ (@ps_setL _ _ _ 2 _ _ _ _ scKinds.nd rfl (Or.inr rfl) (Or.inl rfl) (@pa_all _ _ (words.map V.str) (.cons .str (.cons .str (.cons .str (.cons .str (.cons .str (.cons .str (.cons .str (.cons .str (.cons .str (.cons .str (.cons .str (.cons .str .nil))))))))))))))
   (pss_cons (ps_setLC1H (ax:=a) hh (i:=3) scKinds.nd rfl (Or.inl rfl) (N:=["_law_e","_law_kinds_here","_law_words","_law_found"]) (sc:=defScope sKinds) (ix:=[2,1]) (by decide +kernel) (pi_range1H rfl b_range.no (pa_cons pe_int pa_nil)) (fun _ _ _ _=>(pts_one (pt_val (pe_ix ix_lstH (pv 2) (pv 0) (fun _ _=>rfl))))) (fun _ _ _ _=>(pe_ix ix_lstH (pv 1) (pv 0) (fun _ _=>rfl))))
   (pss_cons (ps_if (PW.pt (pw_or (pt_cmpR op_ne (pe_blt call_len b_len bo_len (pa_cons (pv 3) pa_nil)) pe_int (nomark _)) (pw_or1 (pt_not (pt_val (pe_blt (call_isET (T:="ValueError")) b_isinstance bo_isinstance (pa_cons (pv 0) (pa_cons (pe_ty b_ValueError bo_ValueError) pa_nil)))))))) (pss_one (ps_ret pe_str)) pss_nil)
   (pss_one (ps_ret (pe_ix ix_lstH (pv 3) pe_int (fun _ _=>rfl)))))))))),?_⟩
 obtain ⟨d,hd⟩:∃ d:Nat->Bool,∀ j,d j=decide (i=j):=⟨fun j=>decide (i=j),fun _=>rfl⟩
 have kd:∀ j,j < 12->PySem.W.kitOne K (.ref (cs i)) (.ref (cs j))=some (d j):=fun j hj=>(kn.kd i j hi hj).trans (congrArg some (hd j).symm)
 have ke:=kn.ke i hi
 refine ⟨_,rfl,a,cs i,_,rfl,ha,ke,kd 0 (by decide),?_⟩
 refine ⟨_,rfl,a,cs i,_,rfl,ha,ke,kd 1 (by decide),?_⟩
 refine ⟨_,rfl,a,cs i,_,rfl,ha,ke,kd 2 (by decide),?_⟩
 refine ⟨_,rfl,a,cs i,_,rfl,ha,ke,kd 3 (by decide),?_⟩
 refine ⟨by show 4 <= sizeLine;decide,fun p1 f1=>?_⟩
 have k1:=Keep.new (S:=[]) (o:=.lst [.bl (d 0),.bl (d 1),.bl (d 2),.bl (d 3)]) f1
 have e1:upd H p1 (.lst [.bl (d 0),.bl (d 1),.bl (d 2),.bl (d 3)]) p1=some (.lst [.bl (d 0),.bl (d 1),.bl (d 2),.bl (d 3)]):=upd_same
 generalize upd H p1 (.lst [.bl (d 0),.bl (d 1),.bl (d 2),.bl (d 3)])=H1 at k1 e1 ⊢
 have ha1:=k1 _ _ (by simp) ha
 refine ⟨_,rfl,?_⟩
 refine ⟨_,rfl,a,cs i,_,rfl,ha1,ke,kd 4 (by decide),?_⟩
 refine ⟨_,rfl,a,cs i,_,rfl,ha1,ke,kd 5 (by decide),?_⟩
 refine ⟨_,rfl,a,cs i,_,rfl,ha1,ke,kd 6 (by decide),?_⟩
 refine ⟨_,rfl,a,cs i,_,rfl,ha1,ke,kd 7 (by decide),?_⟩
 refine ⟨by show 4 <= sizeLine;decide,fun p2 f2=>?_⟩
 have k2:=Keep.new (S:=[]) (o:=.lst [.bl (d 4),.bl (d 5),.bl (d 6),.bl (d 7)]) f2
 refine ⟨p1,p2,_,_,rfl,rfl,k2 _ _ (by simp) e1,upd_same,by show 8 <= sizeLine;decide,fun p3 f3=>?_⟩
 have k3:=k2.trans (Keep.new (S:=[]) (o:=.lst ([.bl (d 0),.bl (d 1),.bl (d 2),.bl (d 3)] ++ [.bl (d 4),.bl (d 5),.bl (d 6),.bl (d 7)])) f3)
 have e3:=upd_same (H:=upd H1 p2 (.lst [.bl (d 4),.bl (d 5),.bl (d 6),.bl (d 7)])) (a:=p3) (o:=.lst ([.bl (d 0),.bl (d 1),.bl (d 2),.bl (d 3)] ++ [.bl (d 4),.bl (d 5),.bl (d 6),.bl (d 7)]))
 generalize upd (upd H1 p2 _) p3 _=H3 at k3 e3 ⊢
 have ha3:=k3 _ _ (by simp) ha1
 refine ⟨_,rfl,?_⟩
 refine ⟨_,rfl,a,cs i,_,rfl,ha3,ke,kd 8 (by decide),?_⟩
 refine ⟨_,rfl,a,cs i,_,rfl,ha3,ke,kd 9 (by decide),?_⟩
 refine ⟨_,rfl,a,cs i,_,rfl,ha3,ke,kd 10 (by decide),?_⟩
 refine ⟨_,rfl,a,cs i,_,rfl,ha3,ke,kd 11 (by decide),?_⟩
 refine ⟨by show 4 <= sizeLine;decide,fun p4 f4=>?_⟩
 have k4:=Keep.new (S:=[]) (o:=.lst [.bl (d 8),.bl (d 9),.bl (d 10),.bl (d 11)]) f4
 refine ⟨p3,p4,_,_,rfl,rfl,k4 _ _ (by simp) e3,upd_same,by show 12 <= sizeLine;decide,fun p5 f5=>?_⟩
 have k5:Keep [] H3 (upd (upd H3 p4 (.lst [.bl (d 8),.bl (d 9),.bl (d 10),.bl (d 11)])) p5 (.lst (flags d))):=k4.trans (Keep.new f5)
 have e5:=upd_same (H:=upd H3 p4 (.lst [.bl (d 8),.bl (d 9),.bl (d 10),.bl (d 11)])) (a:=p5) (o:=.lst (flags d))
 change tSeq _ _ _ _ (upd (upd H3 p4 (.lst [.bl (d 8),.bl (d 9),.bl (d 10),.bl (d 11)])) p5 (.lst (flags d)))
 generalize upd (upd H3 p4 (.lst [.bl (d 8),.bl (d 9),.bl (d 10),.bl (d 11)])) p5 (.lst (flags d))=H5 at k5 e5 ⊢
 have ha5:=k5 _ _ (by simp) ha3
 refine ⟨by show 12 <= sizeLine;decide,fun p6 f6=>?_⟩
 have k6:Keep [] H5 (upd H5 p6 (.lst (words.map V.str))):=Keep.new f6
 have e6:=upd_same (H:=H5) (a:=p6) (o:=.lst (words.map V.str))
 have e5':=k6 _ _ (by simp) e5
 change tSeq _ _ _ _ (upd H5 p6 (.lst (words.map V.str)))
 generalize upd H5 p6 (.lst (words.map V.str))=H6 at k6 e6 e5' ⊢
 have ha6:=k6 _ _ (by simp) ha5
 have kA:Keep [] H H6:=((k1.trans k3).trans k5).trans k6
 refine ⟨12,rfl,by decide,by decide,fun acc hacc=>?_⟩
 refine lc_rangeH (n:=12) (by decide) (fun j ys τ H7=>∃ v:Option V,τ=[v,some (.ref p6),some (.ref p5)]/\ys=(if i < j then [V.str (wordOf i)] else [])/\j <= 12/\Keep [acc] H6 H7/\H7 acc=some (.lst ys)) ?_ ?_ ?_ ?_ ?_
 ·exact ⟨_,rfl,rfl,Nat.zero_le _,Keep.at (by simp),upd_same⟩
 ·rintro j ys τ H7 ⟨v,rfl,rfl,hj,kp,h7⟩
  refine ⟨h7,?_⟩
  split
  ·show 1 <= j;omega
  ·exact Nat.zero_le _
 ·rintro j ys τ H7 hj ⟨v,rfl,rfl,_,kp,h7⟩
  have n5:p5 ∉ [acc]:=by simp only [List.mem_singleton];exact ne_of_none e5' hacc
  have n6:p6 ∉ [acc]:=by simp only [List.mem_singleton];exact ne_of_none e6 hacc
  have ej:((0:Int) + (j:Int))=(j:Int):=by omega
  rw [ej]
  refine ⟨_,rfl,_,rfl,p5,_,_,_,rfl,rfl,kp _ _ n5 e5',atI_nat (flag_at hj),_,rfl,?_⟩
  by_cases hij:i=j
  ·refine ifT ((hd j).trans (decide_eq_true hij)) ?_
   subst hij
   refine ⟨_,rfl,_,rfl,p6,_,_,_,rfl,rfl,kp _ _ n6 e6,atI_nat (word_at hj),h7,_,rfl,?_,hj,kp.trans (Keep.at (by simp)),upd_same⟩
   rw [if_neg (Nat.lt_irrefl i),if_pos (Nat.lt_succ_self i)];rfl
  ·refine ifF ((hd j).trans (decide_eq_false hij)) ⟨_,rfl,?_,hj,kp,h7⟩
   by_cases hl:i < j
   ·rw [if_pos hl,if_pos (Nat.lt_succ_of_lt hl)]
   ·rw [if_neg hl,if_neg (by omega)]
 ·rintro ys τ H7 ⟨v,rfl,rfl,_,kp,h7⟩
  exact ⟨_,(kp.drop hacc) _ _ (by simp) ha6⟩
 ·rintro ys τ H7 ⟨v,rfl,rfl,_,kp,h7⟩
  rw [if_pos hi] at h7
  have kB:Keep [] H6 H7:=kp.drop hacc
  have ha7:=kB _ _ (by simp) ha6
  refine ⟨_,rfl,_,_,rfl,.inl ⟨_,.of h7,rfl⟩,rfl,_,rfl,?_⟩
  refine ifF rfl ?_
  refine ⟨_,rfl,a,cs i,_,rfl,ha7,ke,kn.kv i hi,_,rfl,?_⟩
  refine ifF rfl ?_
  refine ⟨_,rfl,acc,_,0,_,rfl,rfl,h7,rfl,?_⟩
  exact q _ (kA.trans kB)
theorem scPut:FnScope ["_law_seat","_law_deed"] ["_law_seat","_law_deed"] (defScope sPut):=⟨rfl,rfl,rfl,by decide +kernel,rfl,by decide +kernel,by decide +kernel⟩
theorem at0 {α:Type} (x:α) (l:List α):atI (x :: l) 0=some x:=atI_nat (j:=0) rfl
theorem at1 {α:Type} (x y:α) (l:List α):atI (x :: y :: l) 1=some y:=atI_nat (j:=1) rfl
theorem at2 {α:Type} (x y z:α) (l:List α):atI (x :: y :: z :: l) 2=some z:=atI_nat (j:=2) rfl
def spPutX (K:PySem.W.Frag) (C:Addr) (cs:Nat->Addr):Sp:=fun vs H Q E=>∃ (N:List Str) (p wl t:Addr) (s:SS) (g:GD) (v:Res),vs=[.ref p,.ref t]/\SeatAt C H p wl s/\H t=some (.tup (gdV g))/\SInv N s/\s.row.length < 900/\PG K H g/\Ver N s g v /\
 (∀ d,v=.told d->∀ (r:Addr) (H':Hp),SeatAt C H' p wl (moveF (deedF s d)).1->Rows H' r (moveF (deedF s d)).2->H r=none->Keep [p,wl] H H'->Q (.ref r) H')/\(∀ i,v=.bad i->∀ H',Keep [] H H'->E (.ref (cs i)) none H')
theorem okPutX {cs:Nat->Addr} (T:SeatT K C) (G:FunG K mg "_law_put" sPut ["_law_seat","_law_deed"]) (MW:MCal P w K mg base (CXE P w) 3 C "want" ["self","asker"] (spWantX K C (cs 3) (cs 3))) (ML:MCal P w K mg base (CXE P w) 3 C "leave" ["self","asker"] (spLeaveX K C (cs 3) (cs 3))) (MD:MCal P w K mg base (CXE P w) 3 C "done" ["self","asker"] (spDoneX K C (cs 3) (cs 3)))
  (MA:MCal P w K mg base (CXE P w) 3 C "ask" ["self","house"] (spAskX K C (cs 1) (cs 4))) (MC:MCal P w K mg base (CXE P w) 3 C "come" ["self","house","back"] (spComeX K C (cs 1) (cs 4))) :
  Cal P w K mg base (CXE P w) 4 "_law_put" ["_law_seat","_law_deed"] (spPutX K C cs):=by
 refine G.okX scPut (fun vs H Q E h=>by obtain ⟨N,p,wl,t,s,g,v,rfl,_⟩:=h;rfl) (fun f cdv A outer s0 H vs Q E hr h=>?_)
 obtain ⟨N,p,wl,t,s,g,v,rfl,S,ht,I,hlen,pg,ver,q,qe⟩:=h
 obtain ⟨dx,hob⟩:=S.ob
 refine ⟨_,(pss_cons (ps_if (pt_cmpR op_eq (pe_ix ix_tupH (pv 1) pe_int (fun _ _=>rfl)) pe_str (nomark _)) (pss_one (ps_ret (pe_mthX MW pass_cx T.cl hr (pv 0) (pa_cons (pe_ix ix_tupH (pv 1) pe_int (fun _ _=>rfl)) pa_nil)))) pss_nil)
   (pss_cons (ps_if (pt_cmpR op_eq (pe_ix ix_tupH (pv 1) pe_int (fun _ _=>rfl)) pe_str (nomark _)) (pss_one (ps_ret (pe_mthX ML pass_cx T.cl hr (pv 0) (pa_cons (pe_ix ix_tupH (pv 1) pe_int (fun _ _=>rfl)) pa_nil)))) pss_nil)
   (pss_cons (ps_if (pt_cmpR op_eq (pe_ix ix_tupH (pv 1) pe_int (fun _ _=>rfl)) pe_str (nomark _)) (pss_one (ps_ret (pe_mthX MD pass_cx T.cl hr (pv 0) (pa_cons (pe_ix ix_tupH (pv 1) pe_int (fun _ _=>rfl)) pa_nil)))) pss_nil)
   (pss_cons (ps_if (pt_cmpR op_eq (pe_ix ix_tupH (pv 1) pe_int (fun _ _=>rfl)) pe_str (nomark _)) (pss_one (ps_ret (pe_mthX MA pass_cx T.cl hr (pv 0) (pa_cons (pe_ix ix_tupH (pv 1) pe_int (fun _ _=>rfl)) pa_nil)))) pss_nil)
   (pss_one (ps_ret (pe_mthX MC pass_cx T.cl hr (pv 0) (pa_cons (pe_ix ix_tupH (pv 1) pe_int (fun _ _=>rfl)) (pa_cons (pe_ix ix_tupH (pv 1) pe_int (fun _ _=>rfl)) pa_nil))))))))),?_⟩
 cases g with
 | want x=>
  refine ⟨_,rfl,t,_,0,_,rfl,rfl,ht,at0 _ _,rfl,_,rfl,ifT (by decide +kernel) ?_⟩
  cases ver with
  | odd _ h1=>exact ⟨_,rfl,p,dx,_,rfl,hob,fl_wa _ _ _ _,_,rfl,t,_,1,_,rfl,rfl,ht,at1 _ _ _,p,wl,s,_,rfl,S,pg.pn,pg.sz,.inl ⟨h1,qe _ rfl⟩⟩
  | told d e g0 ok=>cases d with
   | want z=>
    cases e
    obtain ⟨h1,h2,h3⟩:=ok
    exact ⟨_,rfl,p,dx,_,rfl,hob,fl_wa _ _ _ _,_,rfl,t,_,1,_,rfl,rfl,ht,at1 _ _ _,p,wl,s,_,rfl,S,pg.pn,pg.sz,.inr (.inr ⟨z,rfl,g0.2.1,h1,h2,by omega,q _ rfl⟩)⟩
   | _=>cases e
  | want g0 hb=>exact ⟨_,rfl,p,dx,_,rfl,hob,fl_wa _ _ _ _,_,rfl,t,_,1,_,rfl,rfl,ht,at1 _ _ _,p,wl,s,_,rfl,S,pg.pn,pg.sz,.inr (.inl ⟨_,rfl,g0.2.1,hb,qe _ rfl⟩)⟩
 | leave x=>
  refine ⟨_,rfl,t,_,0,_,rfl,rfl,ht,at0 _ _,rfl,_,rfl,ifF (by decide +kernel) ?_⟩
  refine ⟨_,rfl,t,_,0,_,rfl,rfl,ht,at0 _ _,rfl,_,rfl,ifT (by decide +kernel) ?_⟩
  cases ver with
  | odd _ h1=>exact ⟨_,rfl,p,dx,_,rfl,hob,fl_le _ _ _ _,_,rfl,t,_,1,_,rfl,rfl,ht,at1 _ _ _,p,wl,s,_,rfl,S,pg.pn,pg.sz,.inl ⟨h1,qe _ rfl⟩⟩
  | told d e g0 ok=>cases d with
   | leave z=>
    cases e
    have q:=q _ rfl
    obtain ⟨j,hj,hno⟩:=find_first s.row (askR z) ok
    have ef:deedF s (.leave z) = { s with row:=s.row.eraseIdx j }:=by
     show ({ s with row:=s.row.filter fun x=>decide (x ≠ askR z) }:SS)=_
     rw [filter_erase s.row (askR z) j hj hno (I.u z)]
    rw [ef] at q
    exact ⟨_,rfl,p,dx,_,rfl,hob,fl_le _ _ _ _,_,rfl,t,_,1,_,rfl,rfl,ht,at1 _ _ _,p,wl,s,_,rfl,S,pg.pn,pg.sz,.inr (.inr ⟨z,j,rfl,g0.2.1,hj,hno,q⟩)⟩
   | _=>cases e
  | leave g0 hb=>exact ⟨_,rfl,p,dx,_,rfl,hob,fl_le _ _ _ _,_,rfl,t,_,1,_,rfl,rfl,ht,at1 _ _ _,p,wl,s,_,rfl,S,pg.pn,pg.sz,.inr (.inl ⟨_,rfl,g0.2.1,hb,qe _ rfl⟩)⟩
 | done x=>
  refine ⟨_,rfl,t,_,0,_,rfl,rfl,ht,at0 _ _,rfl,_,rfl,ifF (by decide +kernel) ?_⟩
  refine ⟨_,rfl,t,_,0,_,rfl,rfl,ht,at0 _ _,rfl,_,rfl,ifF (by decide +kernel) ?_⟩
  refine ⟨_,rfl,t,_,0,_,rfl,rfl,ht,at0 _ _,rfl,_,rfl,ifT (by decide +kernel) ?_⟩
  cases ver with
  | odd _ h1=>exact ⟨_,rfl,p,dx,_,rfl,hob,fl_do _ _ _ _,_,rfl,t,_,1,_,rfl,rfl,ht,at1 _ _ _,p,wl,s,_,rfl,S,pg.pn,pg.sz,.inl ⟨h1,qe _ rfl⟩⟩
  | told d e g0 ok=>cases d with
   | done z=>
    cases e
    exact ⟨_,rfl,p,dx,_,rfl,hob,fl_do _ _ _ _,_,rfl,t,_,1,_,rfl,rfl,ht,at1 _ _ _,p,wl,s,_,rfl,S,pg.pn,pg.sz,.inr (.inr ⟨z,rfl,g0.2.1,ok,q _ rfl⟩)⟩
   | _=>cases e
  | done g0 hb=>exact ⟨_,rfl,p,dx,_,rfl,hob,fl_do _ _ _ _,_,rfl,t,_,1,_,rfl,rfl,ht,at1 _ _ _,p,wl,s,_,rfl,S,pg.pn,pg.sz,.inr (.inl ⟨_,rfl,g0.2.1,hb,qe _ rfl⟩)⟩
 | ask x=>
  refine ⟨_,rfl,t,_,0,_,rfl,rfl,ht,at0 _ _,rfl,_,rfl,ifF (by decide +kernel) ?_⟩
  refine ⟨_,rfl,t,_,0,_,rfl,rfl,ht,at0 _ _,rfl,_,rfl,ifF (by decide +kernel) ?_⟩
  refine ⟨_,rfl,t,_,0,_,rfl,rfl,ht,at0 _ _,rfl,_,rfl,ifF (by decide +kernel) ?_⟩
  refine ⟨_,rfl,t,_,0,_,rfl,rfl,ht,at0 _ _,rfl,_,rfl,ifT (by decide +kernel) ?_⟩
  cases ver with
  | odd _ h1=>exact ⟨_,rfl,p,dx,_,rfl,hob,fl_as _ _ _ _,_,rfl,t,_,1,_,rfl,rfl,ht,at1 _ _ _,p,wl,s,_,rfl,S,pg.pn,pg.sz,.inl ⟨h1,qe _ rfl⟩⟩
  | told d e g0 ok=>cases d with
   | ask z=>
    cases e
    obtain ⟨h1,h2,h3⟩:=ok
    exact ⟨_,rfl,p,dx,_,rfl,hob,fl_as _ _ _ _,_,rfl,t,_,1,_,rfl,rfl,ht,at1 _ _ _,p,wl,s,_,rfl,S,pg.pn,pg.sz,.inr (.inr ⟨z,rfl,g0.2.1,h1,h2,by omega,q _ rfl⟩)⟩
   | _=>cases e
  | ask g0 hb=>exact ⟨_,rfl,p,dx,_,rfl,hob,fl_as _ _ _ _,_,rfl,t,_,1,_,rfl,rfl,ht,at1 _ _ _,p,wl,s,_,rfl,S,pg.pn,pg.sz,.inr (.inl ⟨_,rfl,g0.2.1,hb,qe _ rfl⟩)⟩
 | come x y=>
  refine ⟨_,rfl,t,_,0,_,rfl,rfl,ht,at0 _ _,rfl,_,rfl,ifF (by decide +kernel) ?_⟩
  refine ⟨_,rfl,t,_,0,_,rfl,rfl,ht,at0 _ _,rfl,_,rfl,ifF (by decide +kernel) ?_⟩
  refine ⟨_,rfl,t,_,0,_,rfl,rfl,ht,at0 _ _,rfl,_,rfl,ifF (by decide +kernel) ?_⟩
  refine ⟨_,rfl,t,_,0,_,rfl,rfl,ht,at0 _ _,rfl,_,rfl,ifF (by decide +kernel) ?_⟩
  cases ver with
  | odd _ h1=>exact ⟨_,rfl,p,dx,_,rfl,hob,fl_co _ _ _ _,_,rfl,t,_,1,_,rfl,rfl,ht,at1 _ _ _,_,rfl,t,_,2,_,rfl,rfl,ht,at2 _ _ _ _,p,wl,s,_,_,rfl,S,pg.pn,pg.sz,.inl ⟨h1,qe _ rfl⟩⟩
  | told d e g0 ok=>cases d with
   | come z b=>
    cases e
    exact ⟨_,rfl,p,dx,_,rfl,hob,fl_co _ _ _ _,_,rfl,t,_,1,_,rfl,rfl,ht,at1 _ _ _,_,rfl,t,_,2,_,rfl,rfl,ht,at2 _ _ _ _,p,wl,s,_,_,rfl,S,pg.pn,pg.sz,.inr (.inr (.inr ⟨z,b,rfl,g0.2.1,rfl,ok,by omega,q _ rfl⟩))⟩
   | _=>cases e
  | come g0 hb=>exact ⟨_,rfl,p,dx,_,rfl,hob,fl_co _ _ _ _,_,rfl,t,_,1,_,rfl,rfl,ht,at1 _ _ _,_,rfl,t,_,2,_,rfl,rfl,ht,at2 _ _ _ _,p,wl,s,_,_,rfl,S,pg.pn,pg.sz,.inr (.inl ⟨_,rfl,g0.2.1,hb,qe _ rfl⟩)⟩
  | back g0 h1 h2=>
   obtain ⟨Ty,pty⟩:=pg.pb
   exact ⟨_,rfl,p,dx,_,rfl,hob,fl_co _ _ _ _,_,rfl,t,_,1,_,rfl,rfl,ht,at1 _ _ _,_,rfl,t,_,2,_,rfl,rfl,ht,at2 _ _ _ _,p,wl,s,_,_,rfl,S,pg.pn,pg.sz,.inr (.inr (.inl ⟨_,Ty,rfl,g0.2.1,h1,pty,plain_nb pty h2,qe _ rfl⟩))⟩
def Ans (s:SS) (v:Res) (H0 H:Hp) (r:Addr):Prop:=match v with
 | .told d=>∃ l,H r=some (.tup [.str "told",.ref l])/\Rows H l (moveF (deedF s d)).2/\H0 l=none
 | .bad i=>H r=some (.tup [.str "refused",.str (wordOf i)])
def nextS (s:SS):Res->SS
 | .told d=>(moveF (deedF s d)).1
 | .bad _=>s
theorem scAsked:FnScope ["_law_seat","_law_deed","_law_found","_law_e"] ["_law_seat","_law_deed"] (defScope sAsked):=⟨rfl,rfl,rfl,by decide +kernel,rfl,by decide +kernel,by decide +kernel⟩
def spAsked (K:PySem.W.Frag) (C:Addr):Sp:=fun vs H Q _=>∃ (N:List Str) (p wl t:Addr) (s:SS) (g:GD) (v:Res),vs=[.ref p,.ref t]/\SeatAt C H p wl s/\H t=some (.tup (gdV g))/\SInv N s/\s.row.length < 900/\PG K H g/\Ver N s g v /\
 ∀ (r:Addr) (H':Hp),SeatAt C H' p wl (nextS s v)->Ans s v H H' r->H r=none->Keep [p,wl] H H'->Q (.ref r) H'
theorem SeatAt.fresh {H:Hp} {p wl u:Addr} {s:SS} (S:SeatAt C H p wl s) (h:H u=none):u ∉ [p,wl]:=by
 obtain ⟨⟨dx,hob⟩,⟨ps,hwl,_⟩,_⟩:=S
 simp only [List.mem_cons,List.not_mem_nil,or_false]
 rintro (rfl | rfl)
 ·rw [hob] at h;cases h
 ·rw [hwl] at h;cases h
theorem ver_small {N:List Str} {s:SS} {g:GD} {i:Nat} (h:Ver N s g (.bad i)):i < 12:=by
 cases h with
 | odd _ _=>cases g <;> first | (show 3 < 12;decide) | (show 1 < 12;decide)
 | _=>decide
theorem okAsked {cs:Nat->Addr} {DC:Addr} (G:FunG K mg "_law_asked" sAsked ["_law_seat","_law_deed"]) (CP:Cal P w K mg base (CXE P w) 4 "_law_put" ["_law_seat","_law_deed"] (spPutX K C cs)) (CK:CalH P w K mg base 1 "_law_kinds" ["_law_e"] (spKindsH cs))
  (hm:mg "TreeError"=some (.ref DC)) (hx:∀ i,i < 12->PySem.W.exmOne K (.ref (cs i)) (.ref DC)=some true):Cal P w K mg base CX0 5 "_law_asked" ["_law_seat","_law_deed"] (spAsked K C):=by
 refine G.ok scAsked (fun vs H Q E h=>by obtain ⟨N,p,wl,t,s,g,v,rfl,_⟩:=h;rfl) (fun f cdv A outer s0 H vs Q E hr h=>?_)
 obtain ⟨N,p,wl,t,s,g,v,rfl,S,ht,I,hlen,pg,ver,q⟩:=h
 have hr4:Room 4 _:=hr
 have hr1:Room 1 _:=hr.mono (by decide)
 refine ⟨_,(pss_cons (ps_try (i:=3) (th:=fun a=>tRet (tTup (tCons (tC (.str "refused")) (tCons (tCallH a (spKindsH cs) (tCons (tVar 3) tNil)) tNil)))) hm scAsked.nd rfl rfl (fun pn' xe' E1 hp=>pss_one (ps_set (i:=2) scAsked.nd rfl (Or.inl rfl) (pe_calX CP hp hr4 (pa_cons (pv 0) (pa_cons (pv 1) pa_nil)))))
  (fun pn' a=>pss_one (ps_ret (pe_tup (pa_cons pe_str (pa_cons (pe_calH CK (hr1.toH (some (.ref a))) rfl (pa_cons (pv 3) pa_nil)) pa_nil)))))) (pss_one (ps_ret (pe_tup (pa_cons pe_str (pa_cons (pv 2) pa_nil)))))),?_⟩
 refine ⟨_,rfl,_,rfl,N,p,wl,t,s,g,v,rfl,S,ht,I,hlen,pg,ver,?_,?_⟩
 ·rintro d rfl r H1 S1 R1 hr1' k1
  refine ⟨_,rfl,by show 2 <= sizeLine;decide,fun u hu=>?_⟩
  have k2:Keep [] H1 (upd H1 u (.tup [.str "told",.ref r])):=Keep.new hu
  exact q u _ (S1.keep k2) ⟨r,upd_same,R1.keep k2,hr1'⟩ (k1.none (S1.fresh hu) hu) (k1.trans (k2.mono (by simp)))
 ·rintro i rfl H1 k1
  have hi:=ver_small ver
  refine ⟨cs i,rfl,hx i hi,fun a σ' hl ha=>?_⟩
  have k2:Keep [] H1 (upd H1 a (excO (cs i) a)):=Keep.new ha
  refine ⟨.ref a,?_,i,rfl,hi,upd_same,fun H3 k3=>⟨by show 2 <= sizeLine;decide,fun u hu=>?_⟩⟩
  ·rw [List.getElem?_set_self (by rw [hl];show 3 < 4;decide)]
  ·have k4:Keep [] H3 (upd H3 u (.tup [.str "refused",.str (wordOf i)])):=Keep.new hu
   have kk:Keep [] H _:=((k1.trans k2).trans k3).trans k4
   exact q u _ (S.keep kk) upd_same (k1.none (by simp) (k2.none (by simp) (k3.none (by simp) hu))) (kk.mono (by simp))
end
abbrev sOdd:Stmt:=top 29
theorem scOdd:FnScope ["_law_source","_law_name","_law_way","_law_some","_law_signs","_law_at"] ["_law_source","_law_name"] (defScope sOdd):=⟨rfl,rfl,rfl,by decide +kernel,rfl,by decide +kernel,by decide +kernel⟩
def signs:Str:=" !\"#$&'()*+,-./0123456789:;<=>?@ABCDEFGHIJKLMNOPQRSTUVWXYZ[\\]^_`{|}~\n"
theorem signs_no:∀ c ∈ signs.cps.toList,letterB c=false:=by decide +kernel
theorem name_no {z:Str} {c:Nat} (h:c ∈ z.cps.toList) (hb:letterB c=false):nameS z=false:=by
 unfold nameS
 have e:z.cps.toList.all letterB=false:=by
  rw [List.all_eq_false]
  exact ⟨c,h,by rw [hb];simp⟩
 rw [e,Bool.and_false]
theorem name_long {z:Str} (h:9 <= z.length):nameS z=false:=by
 unfold nameS
 rw [decide_eq_false (by omega:¬ z.length <= 8)]
 simp
theorem mem_mid (x y:Str) (c:Nat):c ∈ ((x ++ (⟨#[c]⟩:Str)) ++ y).cps.toList:=by
 have e:((x ++ (⟨#[c]⟩:Str)) ++ y).cps=(x.cps ++ #[c]) ++ y.cps:=rfl
 rw [e]
 simp
structure Odd (K:PySem.W.Frag) (H:Hp) (x:V):Prop where
 pt:∃ T,PlainT K H x T
 nn:x ≠ .non
 nm:nameV x=false
 sz:∀ z,x=.str z->z.length <= 1000
section
variable {P:Program} {w:World} {K:PySem.W.Frag} {mg:Str->Option Value} {base:Heap} {C:Addr}
theorem Odd.str {H:Hp} {z:Str} (h:nameS z=false) (hl:z.length <= 1000):Odd K H (.str z):=⟨⟨_,.str z⟩,nofun,h,fun s e=>by cases e;exact hl⟩
def spOdd (K:PySem.W.Frag):Sp:=fun vs H Q _=>∃ (p:Addr) (z:Str),vs=[.ref p,.str z]/\Src H p/\GoodN z/\∀ (x:V) (H':Hp),Odd K H' x->Keep [p] H H'->Src H' p->Q x H'
theorem okOdd (G:FunG K mg "_law_odd" sOdd ["_law_source","_law_name"]) (CN:Cal P w K mg base CX0 2 "_law_next" ["_law_source","_law_many"] spNext) (b_len:Blt mg "len"):Cal P w K mg base CX0 3 "_law_odd" ["_law_source","_law_name"] (spOdd K):=by
 refine G.ok scOdd (fun vs H Q E h=>by obtain ⟨p,z,rfl,_⟩:=h;rfl) (fun f cdv A outer s0 H vs Q E hr h=>?_)
 obtain ⟨p,z,rfl,⟨a,b,c,hp⟩,⟨hn,hz8⟩,q⟩:=h
 have hr2:Room 2 _:=hr
 have hz1:1 <= z.length:=by
  unfold nameS at hn
  simp only [Bool.and_eq_true,decide_eq_true_eq] at hn
  exact hn.1.1
 have zs:z.length <= sizeLine:=by rw [sizeLine_eq];omega
 refine ⟨_,(pss_cons (ps_set (i:=2) scOdd.nd rfl (Or.inl rfl) (pe_cal CN hr2 (pa_cons (pv 0) (pa_cons pe_int pa_nil))))
   (@pss_cons _ _ _ _ _ (@ps_setL _ _ _ 3 _ _ _ _ scOdd.nd rfl (Or.inl rfl) (Or.inl rfl) (@pa_run _ _ _ 10 [.str "",.str "ninesigns",.str "Gate",.str "a1",.str "a b",.str "-",.int 7,.int 0,.bl true,.bl false] (.cons .str (.cons .str (.cons .str (.cons .str (.cons .str (.cons .str (.cons .int (.cons .int (.cons .bl (.cons .bl .nil)))))))))) (pa_cons (pe_lst (pa_cons pe_str pa_nil)) (pa_cons (pe_tup (pa_cons pe_str (pa_cons pe_str pa_nil))) (pa_cons pe_dnewK (pa_cons pe_str (pa_cons pe_str pa_nil)))))))
   (pss_cons (ps_set (i:=4) scOdd.nd rfl (Or.inl rfl) pe_str)
   (pss_cons (ps_if (pt_cmpR op_eq (pv 2) pe_int (nomark _)) (pss_cons (ps_set (i:=5) scOdd.nd rfl (Or.inl rfl) (pe_cal CN hr2 (pa_cons (pv 0) (pa_cons (pe_blt call_len b_len bo_len (pa_cons (pv 1) pa_nil)) pa_nil))))
   (pss_one (ps_ret (pe_op op_add_str (pe_op op_add_str (pe_slice sl_str (pv 1) po_none (po_some (pv 5))) (pe_ix ix_str (pv 4) (pe_cal CN hr2 (pa_cons (pv 0) (pa_cons (pe_blt call_len b_len bo_len (pa_cons (pv 4) pa_nil)) pa_nil))) (fun _ _=>rfl))) (pe_slice sl_str (pv 1) (po_some (pe_op op_add (pv 5) pe_int)) po_none))))) pss_nil)
   (pss_cons (ps_if (pt_cmpR op_eq (pv 2) pe_int (nomark _)) (pss_one (ps_ret (pe_slice sl_str (pe_op op_mulS (pv 1) pe_int) po_none (po_some (pe_op op_add pe_int (pe_cal CN hr2 (pa_cons (pv 0) (pa_cons pe_int pa_nil)))))))) pss_nil)
   (pss_one (ps_ret (pe_ix ix_lstH (pv 3) (pe_cal CN hr2 (pa_cons (pv 0) (pa_cons (pe_blt call_len b_len bo_len (pa_cons (pv 3) pa_nil)) pa_nil))) (fun _ _=>rfl))))))))),?_⟩
 refine ⟨_,rfl,p,a,b,c,4,rfl,hp,by decide,by decide,fun way a1 c1 w0 w1=>?_⟩
 have k1:Keep [p] H (upd H p (.lst [.int a1,.int b,.int c1])):=Keep.at (by simp)
 have s1:upd H p (.lst [.int a1,.int b,.int c1]) p=some (.lst [.int a1,.int b,.int c1]):=upd_same
 generalize upd H p (.lst [.int a1,.int b,.int c1])=H1 at k1 s1 ⊢
 refine ⟨by show 1 <= sizeLine;decide,fun l1 g1=>⟨by show 2 <= sizeLine;decide,fun t1 g2=>fun d1 g3=>⟨by show 15 <= sizeLine;decide,fun ps g4=>?_⟩⟩⟩
 have kl:=Keep.new (S:=[]) (o:=.lst [.str "a"]) g1
 have kt:=Keep.new (S:=[]) (o:=.tup [.str "a",.str "b"]) g2
 have kd:=Keep.new (S:=[]) (o:=.dK []) g3
 have o1:PlainT K (upd (upd (upd H1 l1 (.lst [.str "a"])) t1 (.tup [.str "a",.str "b"])) d1 (.dK [])) (.ref l1) "list":=.lst (kd _ _ (by simp) (kt _ _ (by simp) upd_same))
 have o2:PlainT K (upd (upd (upd H1 l1 (.lst [.str "a"])) t1 (.tup [.str "a",.str "b"])) d1 (.dK [])) (.ref t1) "tuple":=.tup (kd _ _ (by simp) upd_same)
 have o3:PlainT K (upd (upd (upd H1 l1 (.lst [.str "a"])) t1 (.tup [.str "a",.str "b"])) d1 (.dK [])) (.ref d1) "dict":=.dK upd_same
 have kk:Keep [] H1 (upd (upd (upd H1 l1 (.lst [.str "a"])) t1 (.tup [.str "a",.str "b"])) d1 (.dK [])):=(kl.trans kt).trans kd
 generalize upd (upd (upd H1 l1 (.lst [.str "a"])) t1 (.tup [.str "a",.str "b"])) d1 (.dK [])=H2 at g4 o1 o2 o3 kk ⊢
 have kp:Keep [] H2 (upd H2 ps (.lst [.str "",.str "ninesigns",.str "Gate",.str "a1",.str "a b",.str "-",.int 7,.int 0,.bl true,.bl false,.ref l1,.ref t1,.ref d1,.str "gate ",.str "\n"])):=Keep.new g4
 have ep:upd H2 ps (.lst [.str "",.str "ninesigns",.str "Gate",.str "a1",.str "a b",.str "-",.int 7,.int 0,.bl true,.bl false,.ref l1,.ref t1,.ref d1,.str "gate ",.str "\n"]) ps=some (.lst [.str "",.str "ninesigns",.str "Gate",.str "a1",.str "a b",.str "-",.int 7,.int 0,.bl true,.bl false,.ref l1,.ref t1,.ref d1,.str "gate ",.str "\n"]):=upd_same
 change tSeq _ _ _ _ (upd H2 ps (.lst [.str "",.str "ninesigns",.str "Gate",.str "a1",.str "a b",.str "-",.int 7,.int 0,.bl true,.bl false,.ref l1,.ref t1,.ref d1,.str "gate ",.str "\n"]))
 generalize upd H2 ps _=H3 at kp ep ⊢
 have k3:Keep [] H1 H3:=kk.trans kp
 have s3:=k3 _ _ (by simp) s1
 have kA:Keep [p] H H3:=k1.trans (k3.mono (by simp))
 have ps3:ps ≠ p:=by
  intro e
  rw [e,s3] at ep
  cases ep
 have all:∀ x ∈ ([.str "",.str "ninesigns",.str "Gate",.str "a1",.str "a b",.str "-",.int 7,.int 0,.bl true,.bl false,.ref l1,.ref t1,.ref d1,.str "gate ",.str "\n"]:List V),∀ H',Keep [p] H3 H'->l1 ≠ p->t1 ≠ p->d1 ≠ p->Odd K H' x:=by
  intro x hx H' kH n1 n2 n3
  have kq:∀ {y:Addr} {T:String},PlainT K H2 (.ref y) T->y ≠ p->PlainT K H' (.ref y) T:=fun {y T} h ne=>by
   have h3:=h.keep kp
   cases h3 with
   | lst e=>exact .lst (kH _ _ (by simp [ne]) e)
   | tup e=>exact .tup (kH _ _ (by simp [ne]) e)
   | dK e=>exact .dK (kH _ _ (by simp [ne]) e)
  simp only [List.mem_cons,List.not_mem_nil,or_false] at hx
  rcases hx with rfl | rfl | rfl | rfl | rfl | rfl | rfl | rfl | rfl | rfl | rfl | rfl | rfl | rfl | rfl
  ·exact .str (by decide +kernel) (by decide +kernel)
  ·exact .str (by decide +kernel) (by decide +kernel)
  ·exact .str (by decide +kernel) (by decide +kernel)
  ·exact .str (by decide +kernel) (by decide +kernel)
  ·exact .str (by decide +kernel) (by decide +kernel)
  ·exact .str (by decide +kernel) (by decide +kernel)
  ·exact ⟨⟨_,.int _⟩,nofun,rfl,nofun⟩
  ·exact ⟨⟨_,.int _⟩,nofun,rfl,nofun⟩
  ·exact ⟨⟨_,.bl _⟩,nofun,rfl,nofun⟩
  ·exact ⟨⟨_,.bl _⟩,nofun,rfl,nofun⟩
  ·exact ⟨⟨_,kq o1 n1⟩,nofun,rfl,nofun⟩
  ·exact ⟨⟨_,kq o2 n2⟩,nofun,rfl,nofun⟩
  ·exact ⟨⟨_,kq o3 n3⟩,nofun,rfl,nofun⟩
  ·exact .str (by decide +kernel) (by decide +kernel)
  ·exact .str (by decide +kernel) (by decide +kernel)
 have n1:l1 ≠ p:=by intro e;rw [e,s1] at g1;cases g1
 have n2:t1 ≠ p:=by
  intro e
  have:=kl _ _ (by simp) s1
  rw [e,this] at g2;cases g2
 have n3:d1 ≠ p:=by
  intro e
  have:=(kl.trans kt) _ _ (by simp) s1
  rw [e,this] at g3;cases g3
 refine ⟨_,rfl,rfl,_,rfl,?_⟩
 refine ite2 (fun h1=>?_) (fun h1=>?_)
 ·refine ⟨_,rfl,_,rfl,_,z.length,rfl,⟨zs,rfl⟩,p,a1,b,c1,_,rfl,s3,by omega,by omega,fun at_ a2 c2 t0 t1=>?_⟩
  refine ⟨_,rfl,_,rfl,_,rfl,z,rfl,zs,_,rfl,_,rfl,_,rfl,_,_,rfl,⟨?_,rfl⟩,p,a2,b,c2,_,rfl,upd_same,?_,?_,fun n a4 c4 n0 n1=>?_⟩
  ·decide
  ·decide
  ·decide
  ·rw [upd_upd]
   obtain ⟨ch,hc1,hc2⟩:=atI_in (xs:=signs.cps.toList) n0 n1
   have e1:=Txt.slice_le z none (some at_)
   have e2:=Txt.slice_le z (some (at_ + 1)) none
   refine ⟨_,_,ch,rfl,rfl,by decide,hc1,_,_,rfl,rfl,?_,_,rfl,_,rfl,_,_,rfl,rfl,_,rfl,z,rfl,zs,_,_,rfl,rfl,?_,?_⟩
   ·rw [sizeLine_eq]
    show _ + 1 <= _
    omega
   ·rw [len_app,sizeLine_eq]
    show _ + 1 + _ <= _
    omega
   ·refine q _ _ (.str (name_no (mem_mid _ _ _) (signs_no ch (List.mem_of_getElem? hc2))) ?_) (kA.trans (Keep.at (by simp))) ⟨_,_,_,upd_same⟩
    rw [len_app,len_app]
    show _ + 1 + _ <= _
    omega
 ·refine ⟨_,rfl,rfl,_,rfl,?_⟩
  refine ite2 (fun h2=>?_) (fun h2=>?_)
  ·refine ⟨_,rfl,z,9,rfl,rfl,by decide,hz1,by show z.length * 9 <= 100000;omega,?_⟩
   refine ⟨_,rfl,p,a1,b,c1,3,rfl,s3,by decide,by decide,fun v a2 c2 v0 v1=>⟨_,_,rfl,rfl,_,rfl,_,rfl,?_,?_⟩⟩
   ·rw [repS_len,sizeLine_eq]
    show 9 * z.length <= _
    omega
   ·have e0:=slice_len (repS z 9) (9 + v) (by omega)
    have e1:=repS_len z 9
    have e2:(9:Int).toNat * z.length=9 * z.length:=rfl
    refine q _ _ (.str (name_long ?_) ?_) (kA.trans (Keep.at (by simp))) ⟨_,_,_,upd_same⟩
    ·omega
    ·omega
  ·refine ⟨_,rfl,_,rfl,_,rfl,_,_,rfl,.inl ⟨_,.of ep,rfl⟩,p,a1,b,c1,_,rfl,s3,by show (0:Int) < 15;decide,by show (15:Int) < 4611686018427387904;decide,fun v a2 c2 v0 v1=>?_⟩
   obtain ⟨x,hx1,hx2⟩:=atI_in (xs:=([.str "",.str "ninesigns",.str "Gate",.str "a1",.str "a b",.str "-",.int 7,.int 0,.bl true,.bl false,.ref l1,.ref t1,.ref d1,.str "gate ",.str "\n"]:List V)) v0 v1
   refine ⟨ps,_,_,x,rfl,rfl,by rw [upd_ne ps3];exact ep,hx1,?_⟩
   exact q x _ (all x (List.mem_of_getElem? hx2) _ (Keep.at (by simp)) n1 n2 n3) (kA.trans (Keep.at (by simp))) ⟨_,_,_,upd_same⟩
end
abbrev sPools:Stmt:=top 33
abbrev sGood:Stmt:=top 34
theorem cut_take (l:List Str) {k:Int} (hk:0 <= k):cutV (l.map V.str) none (some k)=(l.take k.toNat).map V.str:=by
 unfold cutV
 obtain ⟨n,rfl⟩:=Int.eq_ofNat_of_zero_le hk
 rw [HT.sIx_none,HT.sIx_nat,List.drop_zero,List.length_map,Nat.sub_zero,<- List.map_take]
 congr 1
 rcases Nat.le_total n l.length with h | h
 ·rw [Nat.min_eq_left h];rfl
 ·rw [Nat.min_eq_right h,List.take_of_length_le (Nat.le_refl _)];exact (List.take_of_length_le h).symm
theorem paired_alk {H:Hp}:∀ {ps qs:List Addr} {rows:List (List V)},Paired (fun q r=>H q=some (.tup r)) ps rows->Paired (fun q r=>H q=some (.tup r)) qs rows->(∀ r ∈ rows,r.all flatV=true/\r.length <= 2000)->Paired (Alk H 1) (ps.map V.ref) (qs.map V.ref)
 | _,_,_,.nil,.nil,_=>.nil
 | p :: _,q :: _,r :: _,.cons a s,.cons b t,h=>by
  refine .cons (.inr ⟨p,q,r,r,rfl,rfl,.inr ⟨a,b⟩,?_,(h r List.mem_cons_self).2⟩) (paired_alk s t fun x hx=>h x (List.mem_cons_of_mem _ hx))
  have f:=(h r List.mem_cons_self).1
  clear a b s t h
  induction r with
  | nil=>exact .nil
  | cons x r ih=>
   rw [List.all_cons,Bool.and_eq_true] at f
   exact .cons ⟨rfl,f.1⟩ (ih f.2)
theorem alk_rows {H:Hp} {a b:Addr} {rows:List (List V)} (h1:Rows H a rows) (h2:Rows H b rows) (hf:∀ r ∈ rows,r.all flatV=true/\r.length <= 2000) (hl:rows.length <= 2000):Alk H 2 (.ref a) (.ref b):=by
 obtain ⟨ps,e1,r1⟩:=h1
 obtain ⟨qs,e2,r2⟩:=h2
 exact .inr ⟨a,b,_,_,rfl,rfl,.inl ⟨e1,e2⟩,paired_alk r1 r2 hf,by rw [List.length_map,paired_len r1];exact hl⟩
theorem SeatAt.keepS {C:Addr} {S:List Addr} {H H':Hp} {p wl:Addr} {s:SS} (A:SeatAt C H p wl s) (k:Keep S H H') (hp:p ∉ S) (hw:wl ∉ S) (ht:∀ b ∈ S,∀ xs,H b ≠ some (.tup xs)):SeatAt C H' p wl s:=by
 obtain ⟨⟨dx,h⟩,⟨ps,e,r⟩,l⟩:=A
 exact ⟨⟨dx,k _ _ hp h⟩,⟨ps,k _ _ hw e,paired_keep k ht r⟩,l⟩
theorem rows_keepS {S:List Addr} {H H':Hp} {p:Addr} {rows:List (List V)} (A:Rows H p rows) (k:Keep S H H') (hp:p ∉ S) (ht:∀ b ∈ S,∀ xs,H b ≠ some (.tup xs)):Rows H' p rows:=by
 obtain ⟨ps,e,r⟩:=A
 exact ⟨ps,k _ _ hp e,paired_keep k ht r⟩
theorem optV_flat (o:Option Str):flatV (optV o)=true:=by cases o <;> rfl
theorem rows_ok (l:List (Str × Str)) (h:l.length <= 2000):(∀ r ∈ l.map rowV,r.all flatV=true/\r.length <= 2000)/\(l.map rowV).length <= 2000:=by
 refine ⟨fun r hr=>?_,by rw [List.length_map];exact h⟩
 obtain ⟨z,_,rfl⟩:=List.mem_map.mp hr
 exact ⟨rfl,by show 2 <= 2000;decide⟩
theorem rows_new {H:Hp} {d t:Addr} {ps:List Addr} {rows:List (List V)} {x:List V} (e:H d=some (.lst (ps.map V.ref ++ [.ref t]))) (r:Paired (fun q r=>H q=some (.tup r)) ps rows) (h:H t=some (.tup x)):Rows H d (rows ++ [x]):=
 ⟨ps ++ [t],by rw [e,List.map_append];rfl,paired_snoc r h⟩
section
variable {P:Program} {w:World} {K:PySem.W.Frag} {mg:Str->Option Value} {base:Heap} {C:Addr}
theorem scPools:FnScope ["_law_cell","_law_source","_law_same","_law_many","_law_houses","_law_askers"] ["_law_cell"] (defScope sPools):=⟨rfl,rfl,rfl,by decide +kernel,rfl,by decide +kernel,by decide +kernel⟩
def spPools:Sp:=fun vs H Q _=>∃ c:Int,vs=[.int c]/\∀ (r la lh:Addr) (as hs:List Str) (v:Int) (H':Hp),H' r=some (.tup [.ref la,.ref lh,.int v])->H' la=some (.lst (as.map V.str))->H' lh=some (.lst (hs.map V.str))->(∀ z ∈ as,GoodN z)->(∀ z ∈ hs,GoodN z)->hs ≠ []->as ≠ []->as.length <= 11->hs.length <= 11->0 <= v->v < 3->Keep [] H H'->Q (.ref r) H'
theorem okPools (G:FunG K mg "_law_pools" sPools ["_law_cell"]) (CD:Cal P w K mg base CX0 1 "_law_digits" ["_law_cell"] spDigits) (CN:Cal P w K mg base CX0 2 "_law_next" ["_law_source","_law_many"] spNext) (CNa:Cal P w K mg base CX0 3 "_law_names" ["_law_source","_law_many"] spNames):Cal P w K mg base CX0 4 "_law_pools" ["_law_cell"] spPools:=by
 refine G.ok scPools (fun vs H Q E h=>by obtain ⟨c,rfl,_⟩:=h;rfl) (fun f cdv A outer s0 H vs Q E hr h=>?_)
 obtain ⟨c,rfl,q⟩:=h
 have hr1:Room 1 _:=hr.mono (by decide)
 have hr2:Room 2 _:=hr.mono (by decide)
 have hr3:=hr
 refine ⟨_,(pss_cons (ps_set (i:=1) scPools.nd rfl (Or.inl rfl) (pe_cal CD hr1 (pa_cons (pv 0) pa_nil)))
   (pss_cons (ps_set (i:=2) scPools.nd rfl (Or.inl rfl) (pe_cmpR op_eq (pe_cal CN hr2 (pa_cons (pv 1) (pa_cons pe_int pa_nil))) pe_int (nomark _)))
   (pss_cons (ps_set (i:=3) scPools.nd rfl (Or.inl rfl) (pe_lst (pa_cons (pe_op op_add pe_int (pe_cal CN hr2 (pa_cons (pv 1) (pa_cons pe_int pa_nil)))) (pa_cons (pe_op op_add pe_int (pe_cal CN hr2 (pa_cons (pv 1) (pa_cons pe_int pa_nil)))) pa_nil))))
   (pss_cons (ps_set (i:=4) scPools.nd rfl (Or.inl rfl) (pe_cal CNa hr3 (pa_cons (pv 1) (pa_cons pe_int pa_nil))))
   (pss_cons (ps_set (i:=5) scPools.nd rfl (Or.inl rfl) (pv 4))
   (pss_cons (ps_if (pt_not (pt_val (pv 2))) (pss_one (ps_set (i:=5) scPools.nd rfl (Or.inl rfl) (pe_cal CNa hr3 (pa_cons (pv 1) (pa_cons pe_int pa_nil))))) pss_nil)
   (pss_one (ps_ret (pe_tup (pa_cons (pe_slice sl_list (pv 5) po_none (po_some (pe_ix ix_lstH (pv 3) pe_int (fun _ _=>rfl)))) (pa_cons (pe_slice sl_list (pv 4) po_none (po_some (pe_ix ix_lstH (pv 3) pe_int (fun _ _=>rfl)))) (pa_cons (pe_cal CN hr2 (pa_cons (pv 1) (pa_cons pe_int pa_nil))) pa_nil)))))))))))),?_⟩
 refine ⟨_,rfl,_,rfl,fun p b1 c1 e1 hp=>?_⟩
 refine ⟨_,rfl,p,b1,c1,e1,2,rfl,upd_same,by decide,by decide,fun g a1 e2 g0 g1=>⟨rfl,?_⟩⟩
 rw [upd_upd]
 refine ⟨_,rfl,p,a1,c1,e2,10,rfl,upd_same,by decide,by decide,fun m1 a2 e3 m10 m11=>⟨_,_,rfl,rfl,?_⟩⟩
 rw [upd_upd]
 refine ⟨_,rfl,p,a2,c1,e3,11,rfl,upd_same,by decide,by decide,fun m2 a3 e4 m20 m21=>⟨_,_,rfl,rfl,by show 2 <= sizeLine;decide,fun ml hml=>?_⟩⟩
 rw [upd_upd] at hml ⊢
 obtain ⟨hml0,mlp⟩:=upd_none hml
 have k1:Keep [] H (upd (upd H p (.lst [.int a3,.int c1,.int e4])) ml (.lst [.int (1 + m1),.int (1 + m2)])):=(Keep.new hp).trans (Keep.new hml)
 have s1:Src (upd (upd H p (.lst [.int a3,.int c1,.int e4])) ml (.lst [.int (1 + m1),.int (1 + m2)])) p:=⟨a3,c1,e4,by rw [upd_ne (Ne.symm mlp),upd_same]⟩
 have hl1:upd (upd H p (.lst [.int a3,.int c1,.int e4])) ml (.lst [.int (1 + m1),.int (1 + m2)]) ml=some (.lst [.int (1 + m1),.int (1 + m2)]):=upd_same
 generalize upd (upd H p (.lst [.int a3,.int c1,.int e4])) ml (.lst [.int (1 + m1),.int (1 + m2)])=H1 at k1 s1 hl1 ⊢
 refine ⟨_,rfl,p,11,rfl,s1,by decide,by decide,fun lh0 hs0 H2 hlh00 hlh0 lhs ghs k2 s2=>?_⟩
 have k02:Keep [] H H2:=k1.under k2 (by intro b hb;rw [List.mem_singleton.mp hb];exact hp)
 have hl2:=k2 _ _ (by simp [mlp]) hl1
 have plh:lh0 ≠ p:=by
  intro e;rw [e] at hlh00
  obtain ⟨_,_,_,h⟩:=s1
  rw [h] at hlh00;cases hlh00
 refine ⟨_,rfl,?_⟩
 refine nm_skip ?_
 refine nx_seq ?_
 refine seq_by (fun σ' H'=>∃ (la0:Addr) (as0:List Str),σ'=[some (.int c),some (.ref p),some (.bl (decide (V.int g=V.int 1))),some (.ref ml),some (.ref lh0),some (.ref la0)]/\H' la0=some (.lst (as0.map V.str))/\(∀ z ∈ as0,GoodN z)/\(as0.length <= 11/\1 <= as0.length)/\H' lh0=some (.lst (hs0.map V.str))/\H' ml=some (.lst [.int (1 + m1),.int (1 + m2)])/\Src H' p/\Keep [] H H') ?_ ?_
 ·rintro σ' H3 ⟨la0,as0,rfl,hla,gas,⟨las,las1⟩,hlh,hm,s3,k3⟩
  refine ⟨_,rfl,_,rfl,ml,_,0,.int (1 + m1),rfl,rfl,hm,rfl,_,rfl,la0,_,rfl,.of hla,fun la hla'=>?_⟩
  rw [cut_take as0 (by omega:(0:Int) <= 1 + m1)]
  have k4:Keep [] H3 (upd H3 la (.lst ((as0.take (1 + m1).toNat).map V.str))):=Keep.new hla'
  refine ⟨_,rfl,_,rfl,ml,_,1,.int (1 + m2),rfl,rfl,k4 _ _ (by simp) hm,rfl,_,rfl,lh0,_,rfl,.of (k4 _ _ (by simp) hlh),fun lh hlh'=>?_⟩
  rw [cut_take hs0 (by omega:(0:Int) <= 1 + m2)]
  have k5:Keep [] (upd H3 la (.lst ((as0.take (1 + m1).toNat).map V.str))) (upd (upd H3 la (.lst ((as0.take (1 + m1).toNat).map V.str))) lh (.lst ((hs0.take (1 + m2).toNat).map V.str))):=Keep.new hlh'
  have h5a:=k5 _ _ (by simp) (show upd H3 la (.lst ((as0.take (1 + m1).toNat).map V.str)) la=some (.lst ((as0.take (1 + m1).toNat).map V.str)) from upd_same)
  have h5h:upd (upd H3 la (.lst ((as0.take (1 + m1).toNat).map V.str))) lh (.lst ((hs0.take (1 + m2).toNat).map V.str)) lh=some (.lst ((hs0.take (1 + m2).toNat).map V.str)):=upd_same
  have k35:=k4.trans k5
  generalize upd (upd H3 la (.lst ((as0.take (1 + m1).toNat).map V.str))) lh (.lst ((hs0.take (1 + m2).toNat).map V.str))=H5 at k5 k35 h5a h5h ⊢
  obtain ⟨x,y,z,hs3⟩:=s3
  refine ⟨_,rfl,p,x,y,z,3,rfl,k35 _ _ (by simp) hs3,by decide,by decide,fun v a' c' v0 v1=>⟨by show 3 <= sizeLine;decide,fun r hr'=>?_⟩⟩
  have lap:la ≠ p:=by
   intro e;rw [e,hs3] at hla';cases hla'
  have lhp:lh ≠ p:=by
   intro e;rw [e,k4 _ _ (by simp) hs3] at hlh';cases hlh'
  have hp0:H p=none:=hp
  have k6:Keep [] H (upd H5 p (.lst [.int a',.int y,.int c'])):=(k3.trans k35).under (S:=[p]) (Keep.at (by simp)) (by intro b hb;rw [List.mem_singleton.mp hb];exact hp0)
  have k7:Keep [] (upd H5 p (.lst [.int a',.int y,.int c'])) (upd (upd H5 p (.lst [.int a',.int y,.int c'])) r (.tup [.ref la,.ref lh,.int v])):=Keep.new hr'
  refine q r la lh (as0.take (1 + m1).toNat) (hs0.take (1 + m2).toNat) v _ upd_same (k7 _ _ (by simp) (by rw [upd_ne lap];exact h5a)) (k7 _ _ (by simp) (by rw [upd_ne lhp];exact h5h)) (fun z hz=>gas z (List.mem_of_mem_take hz)) (fun z hz=>ghs z (List.mem_of_mem_take hz)) ?_ ?_ ?_ ?_ v0 v1 (k6.trans k7)
  ·intro e
   have:(hs0.take (1 + m2).toNat).length=0:=by rw [e];rfl
   rw [List.length_take,lhs] at this
   omega
  ·intro e
   have:(as0.take (1 + m1).toNat).length=0:=by rw [e];rfl
   rw [List.length_take] at this
   omega
  ·rw [List.length_take];omega
  ·rw [List.length_take,lhs];omega
 ·intro nx' hM
  refine ⟨_,rfl,_,rfl,?_⟩
  refine ite2 (fun hg=>?_) (fun _=>?_)
  ·refine ⟨_,rfl,p,10,rfl,s2,by decide,by decide,fun la0 as0 H3 hla00 hla0 las gas k3 s3=>?_⟩
   refine hM _ _ ⟨la0,as0,rfl,hla0,gas,⟨by rw [las];decide,by rw [las];decide⟩,k3 _ _ (by simp [plh]) hlh0,k3 _ _ (by simp [mlp]) hl2,s3,k02.under k3 (by intro b hb;rw [List.mem_singleton.mp hb];exact hp)⟩
  ·exact hM _ _ ⟨lh0,hs0,rfl,hlh0,ghs,⟨by rw [lhs];decide,by rw [lhs];decide⟩,hlh0,hl2,s2,k02⟩
end
section
variable {P:Program} {w:World} {K:PySem.W.Frag} {mg:Str->Option Value} {base:Heap} {C:Addr}
theorem decS (a b:Str):decide (V.str a=V.str b)=decide (a=b):=by
 by_cases h:a=b
 ·rw [h];simp
 ·rw [decide_eq_false h];exact decide_eq_false fun e=>h (by injection e)
theorem scGood:FnScope ["_law_told_here","_law_askers","_law_houses","_law_arrow","_law_row","_law_inside","_law_asked_here","_law_deeds"] ["_law_told_here","_law_askers","_law_houses"] (defScope sGood):=⟨rfl,rfl,rfl,by decide +kernel,rfl,by decide +kernel,by decide +kernel⟩
theorem not_in_row {kd:Str} {s:SS} {rl acc:Addr} {H1 H:Hp} {o:Option Str} {z:Str} {R:Bool->Hp->Prop} (hR1:Rows H1 rl (s.row.map rowV)) (ha:H1 acc=none) (kk:Keep [acc] H1 H)
  (hR:∀ H',Keep [] H H'->R (decide ((kd,z) ∉ s.row) && decide (o ≠ some z)) H'):2 <= sizeLine/\∀ t2,H t2=none->∃ v,(some (some (.ref rl)):Option (Option V))=some (some v)/\rInT true (.ref t2) v (upd H t2 (.tup [.str kd,.str z])) fun v H'=>∃ c,v=.bl c/\if c=true then (∃ v2,(some (some (.str z)):Option (Option V))=some (some v2)/\∃ v3,(some (some (optV o)):Option (Option V))=some (some v3)/\rNe v2 v3 H' fun v H''=>∃ c,v=.bl c/\R c H'') else R false H':=by
 refine ⟨by decide,fun t2 ht2=>⟨_,rfl,?_⟩⟩
 have k2:Keep [] H (upd H t2 (.tup [.str kd,.str z])):=Keep.new ht2
 obtain ⟨ps,e,_⟩:=id hR1
 have rla:rl ≠ acc:=ne_of_none e ha
 have R2:Rows (upd H t2 (.tup [.str kd,.str z])) rl (s.row.map rowV):=(rows_keepS hR1 kk (by simp [rla]) (by
  intro b hb xs e'
  rw [List.mem_singleton.mp hb,ha] at e';cases e')).keep k2
 refine ⟨rl,t2,_,s.row.map rowV,rfl,rfl,R2,upd_same,rfl,rowV_flat _,_,rfl,?_⟩
 refine ite2 (fun h1=>?_) (fun h1=>?_)
 ·have hm:(kd,z) ∉ s.row:=by
   intro hm
   have h1':(!((s.row.map rowV).any fun r=>eqT r (rowV (kd,z))))=true:=h1
   rw [any_row,decide_eq_true hm] at h1'
   cases h1'
  refine ⟨_,rfl,_,rfl,scalO _ _,_,rfl,?_⟩
  have e1:(decide ((kd,z) ∉ s.row) && decide (o ≠ some z)) = !decide (V.str z=optV o):=by rw [decide_eq_true hm,decO];simp
  have h':=hR _ k2
  rw [e1] at h'
  exact h'
 ·have hm:(kd,z) ∈ s.row:=by
   apply Classical.byContradiction;intro hm
   exact h1 (by show (!((s.row.map rowV).any fun r=>eqT r (rowV (kd,z))))=true;rw [any_row,decide_eq_false hm];rfl)
  have e1:(decide ((kd,z) ∉ s.row) && decide (o ≠ some z))=false:=by simp [hm]
  have h':=hR _ k2
  rw [e1] at h'
  exact h'
def spGood:Sp:=fun vs H Q _=>∃ (N:List Str) (b rl la lh:Addr) (s:SS) (as hs:List Str),vs=[.ref b,.ref la,.ref lh]/\H b=some (.lst [optV s.ptr,.ref rl,optV s.hold,.bl s.asked])/\Rows H rl (s.row.map rowV)/\H la=some (.lst (as.map V.str))/\H lh=some (.lst (hs.map V.str)) /\
 (∀ z ∈ as,GN N z)/\(∀ z ∈ hs,GN N z)/\as.length <= 20/\hs.length <= 20/\s.row.length <= 950/\∀ (r:Addr) (ds:List DD) (H':Hp),Rows H' r (ds.map deedV)->(∀ d ∈ ds,DeedOk N s d)->ds.length <= 1500->(as ≠ []->ds ≠ [])->Keep [] H H'->Q (.ref r) H'
theorem okGood (G:FunG K mg "_law_good_deeds" sGood ["_law_told_here","_law_askers","_law_houses"]):Cal P w K mg base CX0 1 "_law_good_deeds" ["_law_told_here","_law_askers","_law_houses"] spGood:=by
 refine G.ok scGood (fun vs H Q E h=>by obtain ⟨N,b,rl,la,lh,s,as,hs,rfl,_⟩:=h;rfl) (fun f cdv A outer s0 H vs Q E hr h=>?_)
 obtain ⟨N,b,rl,la,lh,s,as,hs,rfl,hb,R,hla,hlh,gas,ghs,las,lhs,lr,q⟩:=h
 have hu:=hu_of hr
 refine ⟨_,(pss_cons (ps_asg (pv 0) (pg_lst rfl (pgs_cons (pg_name (i:=3) scGood.nd rfl (Or.inr rfl)) (pgs_cons (pg_name (i:=4) scGood.nd rfl (Or.inr rfl)) (pgs_cons (pg_name (i:=5) scGood.nd rfl (Or.inr rfl)) (pgs_cons (pg_name (i:=6) scGood.nd rfl (Or.inl rfl)) pgs_nil))))))
   (pss_cons (ps_setLC1 (i:=7) scGood.nd rfl (Or.inl rfl) (N:=["_law_told_here","_law_askers","_law_houses","_law_arrow","_law_row","_law_inside","_law_asked_here","_law_deeds"]) (sc:=defScope sGood) (ix:=[4,5]) (by decide +kernel) (pi_list (pv 1)) (fun _ _ _ _=>(pts_one (PW.pt (pw_and (pt_cmpR (op_notInT hu) (pe_tup (pa_cons pe_str (pa_cons (pv 0) pa_nil))) (pv 1) (by with_unfolding_all rfl)) (pw_and1 (pt_cmpR op_ne (pv 0) (pv 2) (nomark _))))))) (fun _ _ _ _=>(pe_tup (pa_cons pe_str (pa_cons (pv 0) pa_nil)))))
   (pss_cons (ps_set (i:=7) scGood.nd rfl (Or.inl rfl) (pe_op op_cat (pv 7) (pe_lc2 (N:=["_law_told_here","_law_askers","_law_houses","_law_arrow","_law_row","_law_inside","_law_asked_here","_law_deeds"]) (sc:=defScope sGood) (ix:=[]) (by decide +kernel) (pi_list (pv 4)) (fun _ _ _ _=>(pts_one (pt_cmpR op_eq (pv 0) pe_str (nomark _)))) (fun _ _ _ _=>(pe_tup (pa_cons pe_str (pa_cons (pv 1) pa_nil)))))))
   (pss_cons (ps_if (pt_cmpR op_notN (pv 5) pe_non (nomark _)) (pss_one (ps_expr (pe_bm PySem.F.plainAttrs_list PySem.F.slot_list_append PySem.F.type_list_append mt_append (pv 7) (pa_cons (pe_tup (pa_cons pe_str (pa_cons (pv 5) pa_nil))) pa_nil)))) pss_nil)
   (pss_cons (ps_set (i:=7) scGood.nd rfl (Or.inl rfl) (pe_op op_cat (pv 7) (pe_lc1 (N:=["_law_told_here","_law_askers","_law_houses","_law_arrow","_law_row","_law_inside","_law_asked_here","_law_deeds"]) (sc:=defScope sGood) (ix:=[4,3]) (by decide +kernel) (pi_list (pv 2)) (fun _ _ _ _=>(pts_one (PW.pt (pw_and (pt_cmpR (op_notInT hu) (pe_tup (pa_cons pe_str (pa_cons (pv 0) pa_nil))) (pv 1) (by with_unfolding_all rfl)) (pw_and1 (pt_cmpR op_ne (pv 0) (pv 2) (nomark _))))))) (fun _ _ _ _=>(pe_tup (pa_cons pe_str (pa_cons (pv 0) pa_nil)))))))
   (pss_cons (ps_if (pt_cmpR op_notN (pv 3) pe_non (nomark _)) (pss_one (ps_set (i:=7) scGood.nd rfl (Or.inl rfl) (pe_op op_cat (pv 7) (pe_lst (pa_cons (pe_tup (pa_cons pe_str (pa_cons (pv 3) (pa_cons pe_bl pa_nil)))) (pa_cons (pe_tup (pa_cons pe_str (pa_cons (pv 3) (pa_cons pe_bl pa_nil)))) pa_nil)))))) pss_nil)
   (pss_one (ps_ret (pv 7))))))))),?_⟩
 obtain ⟨ps,e,hp⟩:=id R
 have lps:=paired_len hp
 rw [List.length_map] at lps
 refine ⟨_,rfl,b,_,rfl,.of hb,rfl,_,_,rfl,_,_,rfl,_,_,rfl,_,_,rfl,rfl,?_⟩
 refine ⟨_,rfl,la,rfl,⟨_,.of hla⟩,fun d1 hd1=>lc_pairsT (zs:=as) (rest:=[some (.ref rl),some (optV s.hold)]) (fun z=>[.str "want",.str z]) (fun z=>decide (askR z ∉ s.row) && decide (s.hold ≠ some z)) (by omega) hd1 hla rfl ?_ (fun z H R hR=>⟨_,rfl,by show 2 <= sizeLine;decide,fun t ht=>hR t ht⟩) ?_⟩
 ·intro z H2 R2 hz kk hR
  exact ⟨_,rfl,not_in_row R hd1 kk hR⟩
 intro H3 R3 k3
 have R3':=R.keep k3
 obtain ⟨ps3,e3,hp3⟩:=id R3'
 refine ⟨_,rfl,_,rfl,rl,rfl,⟨_,.of e3⟩,fun d2 hd2=>lc_rows (ds:=s.row) rowV (fun x=>[.str "leave",.str x.2]) (fun x=>decide (x.1=("asker" : Str))) (fun x _=>[some (.str x.1),some (.str x.2)]) [] (by omega) hd2 R3' ⟨[none,none],rfl,rfl⟩ (fun _ _=>rfl) ?_ ?_ ?_ ?_⟩
 ·intro x qa vs H R hm hv hq h
  match vs,hv with
  | [v,v'],_=>exact ⟨qa,_,rfl,.of hq,rfl,_,_,rfl,_,_,rfl,rfl,h⟩
 ·intro x qa H2 R2 hm kk hq h
  refine ⟨_,rfl,rfl,_,rfl,?_⟩
  have h':=h H2 (Keep.refl _)
  rw [<- decS] at h'
  exact h'
 ·exact fun x qa H R hm hq h=>⟨_,rfl,by show 2 <= sizeLine;decide,fun t ht=>h t _ (Keep.new ht) upd_same⟩
 intro H4 R4 k4
 obtain ⟨qs1,e41,r41⟩:=R3.keep k4
 obtain ⟨qs2,e42,r42⟩:=id R4
 have lq1:=paired_len r41
 have lq2:=paired_len r42
 rw [List.length_map] at lq1 lq2
 have lf1:=List.length_filter_le (fun z=>decide (askR z ∉ s.row) && decide (s.hold ≠ some z)) as
 have lf2:=List.length_filter_le (fun x:Str × Str=>decide (x.1=("asker" : Str))) s.row
 refine ⟨d1,d2,_,_,rfl,rfl,e41,e42,by rw [List.length_map,List.length_map,sizeLine_eq];omega,fun d hd=>?_⟩
 have k5:Keep [] H4 (upd H4 d (.lst (qs1.map V.ref ++ qs2.map V.ref))):=Keep.new hd
 have R5:Rows (upd H4 d (.lst (qs1.map V.ref ++ qs2.map V.ref))) d ((((as.filter fun z=>decide (askR z ∉ s.row) && decide (s.hold ≠ some z)).map DD.want) ++ ((s.row.filter fun x=>decide (x.1=("asker" : Str))).map fun x=>DD.leave x.2)).map deedV):=by
  refine ⟨qs1 ++ qs2,by rw [upd_same,List.map_append],?_⟩
  rw [List.map_append,List.map_map,List.map_map]
  exact paired_app (paired_keep k5 (fun b hb=>by cases hb) r41) (paired_keep k5 (fun b hb=>by cases hb) r42)
 have D5:∀ dd ∈ (((as.filter fun z=>decide (askR z ∉ s.row) && decide (s.hold ≠ some z)).map DD.want) ++ ((s.row.filter fun x=>decide (x.1=("asker" : Str))).map fun x=>DD.leave x.2)),DeedOk N s dd:=by
  intro dd hdd
  rcases List.mem_append.mp hdd with h | h
  ·obtain ⟨z,hz,rfl⟩:=List.mem_map.mp h
   obtain ⟨h1,h2⟩:=List.mem_filter.mp hz
   rw [Bool.and_eq_true] at h2
   exact ⟨of_decide_eq_true h2.2,of_decide_eq_true h2.1,gas z h1⟩
  ·obtain ⟨x,hx,rfl⟩:=List.mem_map.mp h
   obtain ⟨h1,h2⟩:=List.mem_filter.mp hx
   have e1:x.1=("asker" : Str):=of_decide_eq_true h2
   show askR x.2 ∈ s.row
   rw [show askR x.2=x from Prod.ext e1.symm rfl];exact h1
 have L5:(((as.filter fun z=>decide (askR z ∉ s.row) && decide (s.hold ≠ some z)).map DD.want) ++ ((s.row.filter fun x=>decide (x.1=("asker" : Str))).map fun x=>DD.leave x.2)).length <= 970:=by
  rw [List.length_append,List.length_map,List.length_map];omega
 have F5:as ≠ []->s.hold=none->(((as.filter fun z=>decide (askR z ∉ s.row) && decide (s.hold ≠ some z)).map DD.want) ++ ((s.row.filter fun x=>decide (x.1=("asker" : Str))).map fun x=>DD.leave x.2)) ≠ []:=fun ha hn e=>by
  obtain ⟨e1,e2⟩:=List.append_eq_nil_iff.mp e
  rw [List.map_eq_nil_iff,List.filter_eq_nil_iff] at e1 e2
  obtain ⟨z,zs,rfl⟩:=List.exists_cons_of_ne_nil ha
  have q1:=e1 z (by simp)
  rw [hn] at q1
  have q2:askR z ∈ s.row:=by simpa using q1
  exact e2 _ q2 (by simp)
 have k05:=(k3.trans k4).trans k5
 have hdn:H d=none:=(k3.trans k4).none (by simp) hd
 generalize (((as.filter fun z=>decide (askR z ∉ s.row) && decide (s.hold ≠ some z)).map DD.want) ++ ((s.row.filter fun x=>decide (x.1=("asker" : Str))).map fun x=>DD.leave x.2))=ds5 at R5 D5 L5 F5
 generalize upd H4 d (.lst (qs1.map V.ref ++ qs2.map V.ref))=H5 at k5 R5 k05 ⊢
 refine nm_skip ?_
 refine nx_seq ?_
 refine seq_by (fun σ' H'=>∃ ds:List DD,σ'=[some (.ref b),some (.ref la),some (.ref lh),some (optV s.ptr),some (.ref rl),some (optV s.hold),some (.bl s.asked),some (.ref d)]/\Rows H' d (ds.map deedV)/\(∀ dd ∈ ds,DeedOk N s dd)/\ds.length <= 980/\Keep [] H H'/\(as ≠ []->ds ≠ [])) ?_ ?_
 ·rintro σ' H6 ⟨ds6,rfl,R6,D6,L6,k6,F6⟩
  have hlh6:=k6 _ _ (by simp) hlh
  have Rr6:=R.keep k6
  refine ⟨_,rfl,_,rfl,lh,rfl,⟨_,.of hlh6⟩,fun d3 hd3=>lc_pairsT (zs:=hs) (rest:=[some (.ref rl),some (optV s.ptr)]) (fun z=>[.str "ask",.str z]) (fun z=>decide (hsR z ∉ s.row) && decide (s.ptr ≠ some z)) (by omega) hd3 hlh6 rfl ?_ (fun z H R hR=>⟨_,rfl,by show 2 <= sizeLine;decide,fun t ht=>hR t ht⟩) ?_⟩
  ·intro z H2 R2 hz kk hR
   exact ⟨_,rfl,not_in_row Rr6 hd3 kk hR⟩
  intro H7 R7 k7
  obtain ⟨qs6,e6,r6⟩:=R6.keep k7
  obtain ⟨qs7,e7,r7⟩:=id R7
  have lq6:=paired_len r6
  have lq7:=paired_len r7
  rw [List.length_map] at lq6 lq7
  have lf7:=List.length_filter_le (fun z=>decide (hsR z ∉ s.row) && decide (s.ptr ≠ some z)) hs
  refine ⟨d,d3,_,_,rfl,rfl,e6,e7,by rw [List.length_map,List.length_map,sizeLine_eq];omega,fun d4 hd4=>?_⟩
  have k8:Keep [] H7 (upd H7 d4 (.lst (qs6.map V.ref ++ qs7.map V.ref))):=Keep.new hd4
  have R8:Rows (upd H7 d4 (.lst (qs6.map V.ref ++ qs7.map V.ref))) d4 ((ds6 ++ ((hs.filter fun z=>decide (hsR z ∉ s.row) && decide (s.ptr ≠ some z)).map DD.ask)).map deedV):=by
   refine ⟨qs6 ++ qs7,by rw [upd_same,List.map_append],?_⟩
   rw [List.map_append,List.map_map]
   exact paired_app (paired_keep k8 (fun b hb=>by cases hb) r6) (paired_keep k8 (fun b hb=>by cases hb) r7)
  have D8:∀ dd ∈ (ds6 ++ ((hs.filter fun z=>decide (hsR z ∉ s.row) && decide (s.ptr ≠ some z)).map DD.ask)),DeedOk N s dd:=by
   intro dd hdd
   rcases List.mem_append.mp hdd with h | h
   ·exact D6 dd h
   ·obtain ⟨z,hz,rfl⟩:=List.mem_map.mp h
    obtain ⟨h1,h2⟩:=List.mem_filter.mp hz
    rw [Bool.and_eq_true] at h2
    exact ⟨of_decide_eq_true h2.2,of_decide_eq_true h2.1,ghs z h1⟩
  have L8:(ds6 ++ ((hs.filter fun z=>decide (hsR z ∉ s.row) && decide (s.ptr ≠ some z)).map DD.ask)).length <= 1000:=by
   rw [List.length_append,List.length_map];omega
  have F8:as ≠ []->(ds6 ++ ((hs.filter fun z=>decide (hsR z ∉ s.row) && decide (s.ptr ≠ some z)).map DD.ask)) ≠ []:=fun h e=>F6 h (List.append_eq_nil_iff.mp e).1
  have k08:=(k6.trans k7).trans k8
  generalize (ds6 ++ ((hs.filter fun z=>decide (hsR z ∉ s.row) && decide (s.ptr ≠ some z)).map DD.ask))=ds8 at R8 D8 L8 F8
  generalize upd H7 d4 (.lst (qs6.map V.ref ++ qs7.map V.ref))=H8 at k8 R8 k08 ⊢
  refine nm_skip ?_
  refine nx_seq ?_
  refine seq_by (fun σ' H'=>∃ (d5:Addr) (ds:List DD),σ'=[some (.ref b),some (.ref la),some (.ref lh),some (optV s.ptr),some (.ref rl),some (optV s.hold),some (.bl s.asked),some (.ref d5)]/\Rows H' d5 (ds.map deedV)/\(∀ dd ∈ ds,DeedOk N s dd)/\ds.length <= 1500/\Keep [] H H'/\(as ≠ []->ds ≠ [])) ?_ ?_
  ·rintro σ' H9 ⟨d5,ds9,rfl,R9,D9,L9,k9,F9⟩
   exact ⟨_,rfl,q d5 ds9 H9 R9 D9 L9 F9 k9⟩
  ·intro nx' hM
   cases hpt:s.ptr with
   | none=>exact ⟨_,rfl,rfl,_,rfl,ifF rfl (hM _ _ ⟨d4,ds8,by rw [hpt];rfl,R8,D8,by omega,k08,F8⟩)⟩
   | some z=>
    obtain ⟨qs8,e8,r8⟩:=id R8
    have lq8:=paired_len r8
    rw [List.length_map] at lq8
    refine ⟨_,rfl,rfl,_,rfl,ifT rfl ⟨_,rfl,_,rfl,by show 3 <= sizeLine;decide,fun t1 ht1=>⟨_,rfl,by show 3 <= sizeLine;decide,fun t2 ht2=>⟨by show 2 <= sizeLine;decide,fun l2 hl2=>⟨d4,l2,_,_,rfl,rfl,(((Keep.new (S:=[]) ht1).trans (Keep.new ht2)).trans (Keep.new hl2)) _ _ (by simp) e8,upd_same,by rw [List.length_map,sizeLine_eq];show _ + 2 <= _;omega,fun d5 hd5=>?_⟩⟩⟩⟩⟩
    obtain ⟨_,t21⟩:=upd_none ht2
    obtain ⟨hl2a,l2t2⟩:=upd_none hl2
    obtain ⟨_,l2t1⟩:=upd_none hl2a
    obtain ⟨hd5a,d5l⟩:=upd_none hd5
    obtain ⟨hd5b,d5t2⟩:=upd_none hd5a
    obtain ⟨_,d5t1⟩:=upd_none hd5b
    have k10:Keep [] H8 (upd (upd (upd (upd H8 t1 (.tup [.str "come",.str z,.bl true])) t2 (.tup [.str "come",.str z,.bl false])) l2 (.lst [.ref t1,.ref t2])) d5 (.lst (qs8.map V.ref ++ [.ref t1,.ref t2]))):=(((Keep.new ht1).trans (Keep.new ht2)).trans (Keep.new hl2)).trans (Keep.new hd5)
    refine hM _ _ ⟨d5,ds8 ++ [.come z true,.come z false],by rw [hpt];rfl,⟨qs8 ++ [t1,t2],by rw [upd_same,List.map_append];rfl,?_⟩,?_,by simp;omega,k08.trans k10,fun h e=>F8 h (List.append_eq_nil_iff.mp e).1⟩
    ·rw [List.map_append]
     refine paired_app (paired_keep k10 (fun b hb=>by cases hb) r8) (.cons ?_ (.cons ?_ .nil))
     ·rw [upd_ne (Ne.symm d5t1),upd_ne (Ne.symm l2t1),upd_ne (Ne.symm t21),upd_same];rfl
     ·rw [upd_ne (Ne.symm d5t2),upd_ne (Ne.symm l2t2),upd_same];rfl
    ·intro dd hdd
     rcases List.mem_append.mp hdd with h | h
     ·exact D8 dd h
     ·simp only [List.mem_cons,List.not_mem_nil,or_false] at h
      rcases h with rfl | rfl <;> exact hpt
 ·intro nx' hM
  cases hh:s.hold with
  | none=>exact ⟨_,rfl,rfl,_,rfl,ifF rfl (hM _ _ ⟨ds5,by rw [hh];rfl,R5,D5,by omega,k05,fun h=>F5 h hh⟩)⟩
  | some z=>
   obtain ⟨qs5,e5,r5⟩:=id R5
   have lq5:=paired_len r5
   rw [List.length_map] at lq5
   refine ⟨_,rfl,rfl,_,rfl,ifT rfl ⟨_,rfl,.inl ⟨rfl,_,.of e5⟩,_,rfl,by show 2 <= sizeLine;decide,fun t ht=>⟨d,_,_,rfl,rfl,(Keep.new (S:=[]) ht) _ _ (by simp) e5,by rw [List.length_map,sizeLine_eq];omega,?_⟩⟩⟩
   have dt:d ≠ t:=ne_of_none e5 ht
   have k6:Keep [d] H5 (upd (upd H5 t (.tup [.str "done",.str z])) d (.lst (qs5.map V.ref ++ [.ref t]))):=(Keep.new ht).trans (Keep.at (by simp))
   refine hM _ _ ⟨ds5 ++ [.done z],by rw [hh];rfl,?_,?_,by simp;omega,?_,fun _ e=>by simp at e⟩
   ·rw [List.map_append]
    refine rows_new upd_same (paired_keep k6 (fun b hb xs e=>?_) r5) (by rw [upd_ne (Ne.symm dt),upd_same];rfl)
    rw [List.mem_singleton.mp hb,e5] at e;cases e
   ·intro dd hdd
    rcases List.mem_append.mp hdd with h | h
    ·exact D5 dd h
    ·rw [List.mem_singleton.mp h];exact hh
   ·exact k05.under k6 (by intro b hb;rw [List.mem_singleton.mp hb];exact hdn)
end
abbrev sState:Stmt:=top 36
abbrev sMoved:Stmt:=top 37
abbrev sMade:Stmt:=top 39
abbrev sBad:Stmt:=top 38
def mkD (a:V) (rl:Addr) (h:V) (k:Bool):List (Key × V):=[(.inr "arrow",a),(.inr "row",.ref rl),(.inr "inside",h),(.inr "asked",.bl k)]
structure DAt (H:Hp) (st rl:Addr) (s:SS):Prop where
 d:H st=some (.dK (mkD (optV s.ptr) rl (optV s.hold) s.asked))
 rw:Rows H rl (s.row.map rowV)
 len:s.row.length <= 1000
section
variable {H:Hp} {st rl:Addr} {a h:V} {k:Bool}
theorem g_a (e:H st=some (.dK (mkD a rl h k))):DGet H st (.str "arrow") (some a):=.inl ⟨_,.inr "arrow",.inl e,rfl,rfl⟩
theorem g_r (e:H st=some (.dK (mkD a rl h k))):DGet H st (.str "row") (some (.ref rl)):=.inl ⟨_,.inr "row",.inl e,rfl,rfl⟩
theorem g_h (e:H st=some (.dK (mkD a rl h k))):DGet H st (.str "inside") (some h):=.inl ⟨_,.inr "inside",.inl e,rfl,rfl⟩
theorem g_k (e:H st=some (.dK (mkD a rl h k))):DGet H st (.str "asked") (some (.bl k)):=.inl ⟨_,.inr "asked",.inl e,rfl,rfl⟩
theorem p_a (e:H st=some (.dK (mkD a rl h k))) (v:V):DPut H st (.str "arrow") v (upd H st (.dK (mkD v rl h k))):=.inl ⟨_,.inr "arrow",e,rfl,by show 4 < sizeLine;decide,rfl⟩
theorem p_h (e:H st=some (.dK (mkD a rl h k))) (v:V):DPut H st (.str "inside") v (upd H st (.dK (mkD a rl v k))):=.inl ⟨_,.inr "inside",e,rfl,by show 4 < sizeLine;decide,rfl⟩
theorem p_k (e:H st=some (.dK (mkD a rl h k))) (j:Bool):DPut H st (.str "asked") (.bl j) (upd H st (.dK (mkD a rl h j))):=.inl ⟨_,.inr "asked",e,rfl,by show 4 < sizeLine;decide,rfl⟩
theorem DAt.ne {s:SS} (D:DAt H st rl s):st ≠ rl:=by
 obtain ⟨ps,h2,_⟩:=D.rw
 exact ne_of D.d h2 (by intro z;cases z)
theorem DAt.keep {H':Hp} {s:SS} (D:DAt H st rl s) (k:Keep [] H H'):DAt H' st rl s:=⟨k _ _ (by simp) D.d,D.rw.keep k,D.len⟩
theorem no_tupD {ys:List V} {kvs:List (Key × V)} (h1:H st=some (.dK kvs)) (h2:H rl=some (.lst ys)):∀ b ∈ [st,rl],∀ xs,H b ≠ some (.tup xs):=fun b hb xs z=>by
 simp only [List.mem_cons,List.not_mem_nil,or_false] at hb
 rcases hb with rfl | rfl
 ·rw [h1] at z;cases z
 ·rw [h2] at z;cases z
theorem DAt.fresh {s:SS} {u:Addr} (D:DAt H st rl s) (h:H u=none):u ∉ [st,rl]:=by
 obtain ⟨ps,hwl,_⟩:=D.rw
 simp only [List.mem_cons,List.not_mem_nil,or_false]
 rintro (rfl | rfl)
 ·rw [D.d] at h;cases h
 ·rw [hwl] at h;cases h
end
section
variable {P:Program} {w:World} {K:PySem.W.Frag} {mg:Str->Option Value} {base:Heap} {C:Addr}
theorem scState:FnScope ["_law_arrow"] ["_law_arrow"] (defScope sState):=⟨rfl,rfl,rfl,by decide +kernel,rfl,by decide +kernel,by decide +kernel⟩
def spState:Sp:=fun vs H Q _=>∃ (ar:Option Str),vs=[optV ar]/\∀ (st rl:Addr) (H':Hp),H st=none->H rl=none->DAt H' st rl ⟨ar,[],none,false⟩->Keep [] H H'->Q (.ref st) H'
theorem okState (G:FunG K mg "_law_state" sState ["_law_arrow"]):Cal P w K mg base CX0 1 "_law_state" ["_law_arrow"] spState:=by
 refine G.ok scState (fun vs H Q E h=>by obtain ⟨ar,rfl,_⟩:=h;rfl) (fun f cdv A outer s0 H vs Q E hr h=>?_)
 obtain ⟨ar,rfl,q⟩:=h
 refine ⟨_,(pss_one (ps_ret (pe_disp (pps_cons pe_str (pv 0) (pps_cons pe_str (pe_lst pa_nil) (pps_cons pe_str pe_non (pps_cons pe_str pe_bl pps_nil)))) rfl rfl (by simp) (by decide)))),?_⟩
 intro p hp
 refine ⟨_,rfl,Nat.zero_le _,fun l hl=>?_⟩
 obtain ⟨hl1,lp⟩:=upd_none hl
 refine ⟨by rw [upd_ne (Ne.symm lp),upd_same],mkD (optV ar) l .non false,rfl,by show 4 <= 15;decide,?_⟩
 have kk:Keep [] H (upd (upd (upd H p (.dK [])) l (.lst [])) p (.dK (mkD (optV ar) l .non false))):=((Keep.new hp).trans (Keep.new hl)).under (S:=[p]) (Keep.at (by simp)) (by intro b hb;rw [List.mem_singleton.mp hb];exact hp)
 exact q p l _ hp hl1 ⟨upd_same,⟨[],by rw [upd_ne lp,upd_same];rfl,.nil⟩,Nat.zero_le _⟩ kk
theorem scMoved:FnScope ["_law_state_here","_law_word","_law_name"] ["_law_state_here"] (defScope sMoved):=⟨rfl,rfl,rfl,by decide +kernel,rfl,by decide +kernel,by decide +kernel⟩
def spMoved:Sp:=fun vs H Q _=>∃ (st rl:Addr) (s:SS),vs=[.ref st]/\DAt H st rl s/\∀ (r:Addr) (H':Hp),DAt H' st rl (moveF s).1->Rows H' r (moveF s).2->H r=none->Keep [st,rl] H H'->Q (.ref r) H'
theorem okMoved (G:FunG K mg "_law_moved" sMoved ["_law_state_here"]):Cal P w K mg base CX0 1 "_law_moved" ["_law_state_here"] spMoved:=by
 refine G.ok scMoved (fun vs H Q E h=>by obtain ⟨st,rl,s,rfl,_⟩:=h;rfl) (fun f cdv A outer s0 H vs Q E hr h=>?_)
 obtain ⟨st,rl,s,rfl,D0,q⟩:=h
 have hu:=hu_of hr
 refine ⟨_,(pss_cons (ps_if (pt_cmpR (op_eqE (Nat.lt_of_succ_lt hu)) (pe_dget hu (pv 0) pe_str (fun _ _=>rfl)) (pe_lst pa_nil) (nomark _)) (pss_one (ps_ret (pe_lst pa_nil))) pss_nil)
   (pss_cons (ps_if (PW.pt (pw_and (pt_cmpR op_isN (pe_dget hu (pv 0) pe_str (fun _ _=>rfl)) pe_non (nomark _)) (pw_and1 (pt_cmpR op_isN (pe_dget hu (pv 0) pe_str (fun _ _=>rfl)) pe_non (nomark _))))) (pss_cons (ps_asg (pe_bm PySem.F.plainAttrs_list PySem.F.slot_list_pop PySem.F.type_list_pop mt_popAt (pe_dget hu (pv 0) pe_str (fun _ _=>rfl)) (pa_cons pe_int pa_nil)) (pg_tup rfl (pgs_cons (pg_name (i:=1) scMoved.nd rfl (Or.inl rfl)) (pgs_cons (pg_name (i:=2) scMoved.nd rfl (Or.inl rfl)) pgs_nil))))
   (pss_cons (ps_if (pt_cmpR op_eq (pv 1) pe_str (nomark _)) (pss_cons (ps_dput hu (pv 0) pe_str (pv 2) rfl)
   (pss_one (ps_ret (pe_lst (pa_cons (pe_tup (pa_cons pe_str (pa_cons (pv 2) pa_nil))) pa_nil))))) pss_nil)
   (pss_cons (ps_dput hu (pv 0) pe_str (pv 2) rfl)
   (pss_cons (ps_dput hu (pv 0) pe_str (pe_cmpR (op_neE (Nat.lt_of_succ_lt hu)) (pe_dget hu (pv 0) pe_str (fun _ _=>rfl)) (pe_lst pa_nil) (nomark _)) rfl)
   (pss_one (ps_ret (pe_lst (pa_cons (pe_tup (pa_cons pe_str (pa_cons (pv 2) (pa_cons (pe_dget hu (pv 0) pe_str (fun _ _=>rfl)) pa_nil)))) pa_nil)))))))) pss_nil)
   (pss_cons (ps_if (PW.pt (pw_and (pt_cmpR op_notN (pe_dget hu (pv 0) pe_str (fun _ _=>rfl)) pe_non (nomark _)) (pw_and1 (pt_not (pt_val (pe_dget hu (pv 0) pe_str (fun _ _=>rfl))))))) (pss_cons (ps_dput hu (pv 0) pe_str pe_bl rfl)
   (pss_one (ps_ret (pe_lst (pa_cons (pe_tup (pa_cons pe_str (pa_cons (pe_dget hu (pv 0) pe_str (fun _ _=>rfl)) pa_nil))) pa_nil))))) pss_nil)
   (pss_one (ps_ret (pe_lst pa_nil)))))),?_⟩
 have none_:∀ H1,Keep [] H H1->moveF s=(s,[])->∀ r,H1 r=none->Q (.ref r) (upd H1 r (.lst [])):=fun H1 k1 e r hr=>by
  rw [e] at q
  exact q r _ (D0.keep (k1.trans (Keep.new hr))) ⟨[],upd_same,.nil⟩ (k1.none (by simp) hr) ((k1.trans (Keep.new hr)).mono (by simp))
 obtain ⟨ps0,hw0,hpr0⟩:=id D0.rw
 have lps:=paired_len hpr0
 rw [List.length_map] at lps
 have hps:(ps0.map V.ref).isEmpty=s.row.isEmpty:=by
  cases hps:ps0 <;> cases hrow:s.row <;> simp_all
 refine ⟨_,rfl,st,_,rfl,g_r D0.d,Nat.zero_le _,fun e0 he0=>?_⟩
 have k0:Keep [] H (upd H e0 (.lst [])):=Keep.new he0
 refine ⟨rl,e0,_,rfl,rfl,k0 _ _ (by simp) hw0,upd_same,ne_of_none hw0 he0,_,rfl,?_⟩
 generalize upd H e0 (.lst [])=H1 at k0 ⊢
 have D:=D0.keep k0
 have nst:=D.ne
 obtain ⟨ps,hwl,hpr⟩:=id D.rw
 cases hem:s.row.isEmpty with
 | true=>
  refine ifT (by show (ps0.map V.ref).isEmpty=true;rw [hps];exact hem) ⟨Nat.zero_le _,fun r hr=>none_ H1 k0 ?_ r hr⟩
  unfold moveF;rw [hem];rfl
 | false=>
 refine ifF (by show (ps0.map V.ref).isEmpty=false;rw [hps];exact hem) ?_
 refine ⟨_,rfl,st,_,rfl,g_a D.d,rfl,_,rfl,?_⟩
 cases hp:s.ptr with
 | none=>
  refine ifT rfl ?_
  refine ⟨_,rfl,st,_,rfl,g_h D.d,rfl,_,rfl,?_⟩
  cases hh:s.hold with
  | none=>
   refine ifT rfl ?_
   have em:moveF s=((serveF s).1,[(serveF s).2]):=by unfold moveF;rw [hem,hp,hh];rfl
   rw [em] at q
   obtain ⟨ptr,row,hold,asked⟩:=s
   dsimp only at *
   subst hp hh
   cases row with
   | nil=>cases hem
   | cons kn rest=>
    obtain ⟨k,n⟩:=kn
    cases hpr with
    | @cons t _ ps' _ ht hpr=>
    have lps':=paired_len hpr
    rw [List.length_map] at lps'
    have hl1:rest.length + 1 <= 1000:=D.len
    refine ⟨_,rfl,st,_,rfl,g_r D.d,.inl ⟨rfl,_,.of hwl⟩,rl,_,0,0,.ref t,rfl,rfl,hwl,by decide,by decide,seq0 _,rfl,?_⟩
    rw [show (List.map V.ref (t :: ps')).eraseIdx 0=ps'.map V.ref from rfl]
    have ntw:t ≠ rl:=ne_of ht hwl (by intro z;cases z)
    have hd1:upd H1 rl (.lst (ps'.map V.ref)) st=some (.dK (mkD .non rl .non asked)):=by rw [upd_ne nst];exact D.d
    refine ⟨t,_,rfl,.of (by rw [upd_ne ntw];exact ht),rfl,_,_,rfl,_,_,rfl,rfl,?_⟩
    refine ⟨_,rfl,rfl,_,rfl,?_⟩
    refine ite2 (fun hk=>?_) (fun hk=>?_)
    ·have hk':k="asker":=by have:=of_decide_eq_true hk;injection this
     have es:serveF { ptr:=none,row:=(k,n) :: rest,hold:=none,asked:=asked }=({ ptr:=none,row:=rest,hold:=some n,asked:=asked },[.str "given",.str n]):=by
      unfold serveF;simp only [hk',if_true]
     rw [es] at q
     refine ⟨_,rfl,_,rfl,st,_,rfl,p_h hd1 _,?_⟩
     refine ⟨_,rfl,by show 2 <= sizeLine;decide,fun t1 ht1=>⟨by show 1 <= sizeLine;decide,fun r hr=>?_⟩⟩
     have kk:Keep [st,rl] H1 (upd (upd (upd (upd H1 rl (.lst (ps'.map V.ref))) st (.dK (mkD .non rl (.str n) asked))) t1 (.tup [.str "given",.str n])) r (.lst [.ref t1])):=(((Keep.at (by simp)).trans (Keep.at (by simp))).trans (Keep.new ht1)).trans (Keep.new hr)
     obtain ⟨hr1,rt⟩:=upd_none hr
     obtain ⟨hr2,rs⟩:=upd_none hr1
     obtain ⟨hr3,rr⟩:=upd_none hr2
     obtain ⟨hs2,ts⟩:=upd_none ht1
     obtain ⟨hs3,tr⟩:=upd_none hs2
     refine q r _ ⟨?_,⟨ps',?_,paired_keep kk (no_tupD D.d hwl) hpr⟩,?_⟩ ⟨[t1],upd_same,.cons ?_ .nil⟩ (k0.none (by simp) hr3) ((k0.mono (by simp)).trans kk)
     ·rw [upd_ne (Ne.symm rs),upd_ne (Ne.symm ts),upd_same];rfl
     ·rw [upd_ne (Ne.symm rr),upd_ne (Ne.symm tr),upd_ne (Ne.symm nst),upd_same]
     ·show rest.length <= 1000;omega
     ·rw [upd_ne (Ne.symm rt),upd_same]
    ·have hk':¬ k="asker":=fun z=>hk (by rw [z];exact decide_eq_true rfl)
     have es:serveF { ptr:=none,row:=(k,n) :: rest,hold:=none,asked:=asked }=({ ptr:=some n,row:=rest,hold:=none,asked:=!rest.isEmpty },[.str "right",.str n,.bl (!rest.isEmpty)]):=by
      unfold serveF;simp only [if_neg hk']
     rw [es] at q
     refine ⟨_,rfl,_,rfl,st,_,rfl,p_a hd1 _,?_⟩
     have hd2:upd (upd H1 rl (.lst (ps'.map V.ref))) st (.dK (mkD (.str n) rl .non asked)) st=some (.dK (mkD (.str n) rl .non asked)):=upd_same
     refine ⟨_,rfl,st,_,rfl,g_r hd2,Nat.zero_le _,fun e1 he1=>?_⟩
     obtain ⟨he2,es1⟩:=upd_none he1
     obtain ⟨he3,er1⟩:=upd_none he2
     have hrl2:upd (upd (upd H1 rl (.lst (ps'.map V.ref))) st (.dK (mkD (.str n) rl .non asked))) e1 (.lst []) rl=some (.lst (ps'.map V.ref)):=by rw [upd_ne (Ne.symm er1),upd_ne (Ne.symm nst),upd_same]
     refine ⟨rl,e1,_,rfl,rfl,hrl2,upd_same,Ne.symm er1,?_⟩
     have eb:(!(ps'.map V.ref).isEmpty) = !rest.isEmpty:=by
      cases rest <;> cases ps' <;> first | rfl | (simp at lps')
     rw [if_pos rfl,eb]
     have hd3:upd (upd (upd H1 rl (.lst (ps'.map V.ref))) st (.dK (mkD (.str n) rl .non asked))) e1 (.lst []) st=some (.dK (mkD (.str n) rl .non asked)):=by rw [upd_ne (Ne.symm es1)];exact hd2
     refine ⟨_,rfl,st,_,rfl,p_k hd3 _,?_⟩
     refine ⟨_,rfl,_,rfl,st,_,rfl,g_k upd_same,by show 3 <= sizeLine;decide,fun t1 ht1=>⟨by show 1 <= sizeLine;decide,fun r hr=>?_⟩⟩
     have kk:Keep [st,rl] H1 (upd (upd (upd (upd (upd (upd H1 rl (.lst (ps'.map V.ref))) st (.dK (mkD (.str n) rl .non asked))) e1 (.lst [])) st (.dK (mkD (.str n) rl .non (!rest.isEmpty)))) t1 (.tup [.str "right",.str n,.bl (!rest.isEmpty)])) r (.lst [.ref t1])):=
      (((((Keep.at (by simp)).trans (Keep.at (by simp))).trans (Keep.new he1)).trans (Keep.at (by simp))).trans (Keep.new ht1)).trans (Keep.new hr)
     obtain ⟨hr1,rt⟩:=upd_none hr
     obtain ⟨hr2,rs⟩:=upd_none hr1
     obtain ⟨hr3,re⟩:=upd_none hr2
     obtain ⟨hr4,_⟩:=upd_none hr3
     obtain ⟨hr5,rr⟩:=upd_none hr4
     obtain ⟨hs2,ts⟩:=upd_none ht1
     obtain ⟨hs3,te⟩:=upd_none hs2
     obtain ⟨hs4,_⟩:=upd_none hs3
     obtain ⟨hs5,tr⟩:=upd_none hs4
     refine q r _ ⟨?_,⟨ps',?_,paired_keep kk (no_tupD D.d hwl) hpr⟩,?_⟩ ⟨[t1],upd_same,.cons ?_ .nil⟩ (k0.none (by simp) hr5) ((k0.mono (by simp)).trans kk)
     ·rw [upd_ne (Ne.symm rs),upd_ne (Ne.symm ts),upd_same];rfl
     ·rw [upd_ne (Ne.symm rr),upd_ne (Ne.symm tr),upd_ne (Ne.symm nst),upd_ne (Ne.symm er1),upd_ne (Ne.symm nst),upd_same]
     ·show rest.length <= 1000;omega
     ·rw [upd_ne (Ne.symm rt),upd_same]
  | some g=>
   refine ifF rfl ?_
   refine ⟨_,rfl,st,_,rfl,g_a D.d,rfl,_,rfl,?_⟩
   refine ifF (by rw [hp];rfl) (ifF rfl ⟨Nat.zero_le _,fun r hr=>none_ H1 k0 ?_ r hr⟩)
   unfold moveF;rw [hem,hp,hh];rfl
 | some g=>
  refine ifF rfl (ifF rfl ?_)
  refine ⟨_,rfl,st,_,rfl,g_a D.d,rfl,_,rfl,?_⟩
  refine ifT (by rw [hp];rfl) ?_
  refine ⟨_,rfl,st,_,rfl,g_k D.d,_,rfl,?_⟩
  cases hk:s.asked with
  | true=>
   refine ifF rfl ⟨Nat.zero_le _,fun r hr=>none_ H1 k0 ?_ r hr⟩
   unfold moveF;rw [hem,hp,hk];rfl
  | false=>
   refine ifT rfl ?_
   have em:moveF s=({ s with asked:=true },[[.str "ask",.str g]]):=by unfold moveF;rw [hem,hp,hk];rfl
   rw [em] at q
   refine ⟨_,rfl,st,_,rfl,p_k D.d true,?_⟩
   have hd2:upd H1 st (.dK (mkD (optV s.ptr) rl (optV s.hold) true)) st=some (.dK (mkD (optV s.ptr) rl (optV s.hold) true)):=upd_same
   refine ⟨_,rfl,st,_,rfl,g_a hd2,by show 2 <= sizeLine;decide,fun t1 ht1=>⟨by show 1 <= sizeLine;decide,fun r hr=>?_⟩⟩
   rw [hp] at ht1 hr ⊢
   have kk:Keep [st,rl] H1 (upd (upd (upd H1 st (.dK (mkD (optV (some g)) rl (optV s.hold) true))) t1 (.tup [.str "ask",optV (some g)])) r (.lst [.ref t1])):=((Keep.at (by simp)).trans (Keep.new ht1)).trans (Keep.new hr)
   obtain ⟨hr1,rt⟩:=upd_none hr
   obtain ⟨hr2,rs⟩:=upd_none hr1
   obtain ⟨hs2,ts⟩:=upd_none ht1
   refine q r _ ⟨?_,⟨ps,?_,paired_keep kk (no_tupD D.d hwl) hpr⟩,D.len⟩ ⟨[t1],upd_same,.cons ?_ .nil⟩ (k0.none (by simp) hr2) ((k0.mono (by simp)).trans kk)
   ·rw [upd_ne (Ne.symm rs),upd_ne (Ne.symm ts),upd_same,hp]
   ·rw [upd_ne (ne_of_none hwl hr2),upd_ne (ne_of_none hwl hs2),upd_ne (Ne.symm nst)];exact hwl
   ·rw [upd_ne (Ne.symm rt),upd_same];rfl
end
def GD.wd:GD->Str
 | .want _=>"want"
 | .leave _=>"leave"
 | .done _=>"done"
 | .ask _=>"ask"
 | .come _ _=>"come"
theorem gd_at0 (g:GD):atI (gdV g) 0=some (.str g.wd):=by cases g <;> exact at0 _ _
theorem gd_at1 (g:GD):atI (gdV g) 1=some g.nm:=by cases g <;> exact at1 _ _ _
theorem gd_cut {K:PySem.W.Frag} {H:Hp} {t:Addr} {Q:VK}:∀ {g:GD},H t=some (.tup (gdV g))->(∀ (u:Addr) (H1:Hp),Keep [] H H1->H1 u=some (.tup [.str g.wd,g.nm])->Q (.ref u) H1)->rSlW K (.ref t) none (some 2) H Q
 | .want _,ht,h=>⟨t,_,rfl,.of ht,.inl ⟨rfl,rfl,h t H (Keep.refl _) ht⟩⟩
 | .leave _,ht,h=>⟨t,_,rfl,.of ht,.inl ⟨rfl,rfl,h t H (Keep.refl _) ht⟩⟩
 | .done _,ht,h=>⟨t,_,rfl,.of ht,.inl ⟨rfl,rfl,h t H (Keep.refl _) ht⟩⟩
 | .ask _,ht,h=>⟨t,_,rfl,.of ht,.inl ⟨rfl,rfl,h t H (Keep.refl _) ht⟩⟩
 | .come _ _,ht,h=>⟨t,_,rfl,.of ht,.inr ⟨by show ¬ ((0:Nat)=0/\(2:Nat)=3);decide,fun p hp=>h p _ (Keep.new hp) upd_same⟩⟩
theorem DAt.more {H3:Hp} {st rl t:Addr} {s:SS} {ps:List Addr} {x:Str × Str} (hd:H3 st=some (.dK (mkD (optV s.ptr) rl (optV s.hold) s.asked)))
  (hpr:Paired (fun q r=>H3 q=some (.tup r)) ps (s.row.map rowV)) (hw:H3 rl=some (.lst (ps.map V.ref ++ [.ref t]))) (ht:H3 t=some (.tup (rowV x))) (hl:s.row.length < 1000):DAt H3 st rl { s with row:=s.row ++ [x] }:=by
 refine ⟨hd,⟨ps ++ [t],by rw [hw,List.map_append];rfl,?_⟩,by show (s.row ++ [x]).length <= 1000;simp;omega⟩
 show Paired _ _ ((s.row ++ [x]).map rowV)
 rw [List.map_append]
 exact paired_snoc hpr ht
section
variable {P:Program} {w:World} {K:PySem.W.Frag} {mg:Str->Option Value} {base:Heap} {C:Addr}
theorem scMade:FnScope ["_law_state_here","_law_deed","_law_word","_law_name"] ["_law_state_here","_law_deed"] (defScope sMade):=⟨rfl,rfl,rfl,by decide +kernel,rfl,by decide +kernel,by decide +kernel⟩
def spMade:Sp:=fun vs H Q _=>∃ (N:List Str) (st rl t:Addr) (s:SS) (d:DD),vs=[.ref st,.ref t]/\DAt H st rl s/\H t=some (.tup (gdV (gdOf d)))/\SInv N s/\DeedOk N s d/\s.row.length < 900 /\
 ∀ (r:Addr) (H':Hp),DAt H' st rl (moveF (deedF s d)).1->Rows H' r (moveF (deedF s d)).2->H r=none->Keep [st,rl] H H'->Q (.ref r) H'
theorem okMade (G:FunG K mg "_law_made" sMade ["_law_state_here","_law_deed"]) (CM:Cal P w K mg base CX0 1 "_law_moved" ["_law_state_here"] spMoved):Cal P w K mg base CX0 2 "_law_made" ["_law_state_here","_law_deed"] spMade:=by
 refine G.ok scMade (fun vs H Q E h=>by obtain ⟨N,st,rl,t,s,d,rfl,_⟩:=h;rfl) (fun f cdv A outer s0 H vs Q E hr h=>?_)
 obtain ⟨N,st,rl,t,s,d,rfl,D0,ht,I,ok,hlen,q⟩:=h
 have hr1:Room 1 _:=hr
 have hu:=hu_of hr
 have hlen':s.row.length < 1000:=by omega
 refine ⟨_,(pss_cons (ps_asg (pe_slice sl_tupW (pv 1) po_none (po_some pe_int)) (pg_tup rfl (pgs_cons (pg_name (i:=2) scMade.nd rfl (Or.inl rfl)) (pgs_cons (pg_name (i:=3) scMade.nd rfl (Or.inl rfl)) pgs_nil))))
   (pss_cons (ps_if (pt_cmpR op_eq (pv 2) pe_str (nomark _)) (pss_one (ps_expr (pe_bm PySem.F.plainAttrs_list PySem.F.slot_list_append PySem.F.type_list_append mt_append (pe_dget hu (pv 0) pe_str (fun _ _=>rfl)) (pa_cons (pe_tup (pa_cons pe_str (pa_cons (pv 3) pa_nil))) pa_nil)))) (pss_one (ps_if (pt_cmpR op_eq (pv 2) pe_str (nomark _)) (pss_one (ps_expr (pe_bm PySem.F.plainAttrs_list PySem.F.slot_list_remove PySem.F.type_list_remove (mt_removeT hu) (pe_dget hu (pv 0) pe_str (fun _ _=>rfl)) (pa_cons (pe_tup (pa_cons pe_str (pa_cons (pv 3) pa_nil))) pa_nil)))) (pss_one (ps_if (pt_cmpR op_eq (pv 2) pe_str (nomark _)) (pss_one (ps_dput hu (pv 0) pe_str pe_non rfl)) (pss_one (ps_if (pt_cmpR op_eq (pv 2) pe_str (nomark _)) (pss_one (ps_expr (pe_bm PySem.F.plainAttrs_list PySem.F.slot_list_append PySem.F.type_list_append mt_append (pe_dget hu (pv 0) pe_str (fun _ _=>rfl)) (pa_cons (pe_tup (pa_cons pe_str (pa_cons (pv 3) pa_nil))) pa_nil)))) (pss_cons (ps_dput hu (pv 0) pe_str pe_non rfl)
   (pss_cons (ps_dput hu (pv 0) pe_str pe_bl rfl)
   (pss_one (ps_if (pt_val (pe_ix ix_tupH (pv 1) pe_int (fun _ _=>rfl))) (pss_one (ps_expr (pe_bm PySem.F.plainAttrs_list PySem.F.slot_list_append PySem.F.type_list_append mt_append (pe_dget hu (pv 0) pe_str (fun _ _=>rfl)) (pa_cons (pe_tup (pa_cons pe_str (pa_cons (pv 3) pa_nil))) pa_nil)))) pss_nil)))))))))))
   (pss_one (ps_ret (pe_cal CM hr1 (pa_cons (pv 0) pa_nil)))))),?_⟩
 refine ⟨_,rfl,_,rfl,gd_cut ht fun u H1 k01 hu1=>?_⟩
 refine ⟨u,_,rfl,.of hu1,rfl,_,_,rfl,_,_,rfl,rfl,?_⟩
 have D:=D0.keep k01
 have ht1:=k01 _ _ (by simp) ht
 cases d with
 | want z=>
  dsimp only [gdOf,GD.wd,GD.nm]
  refine ⟨_,rfl,rfl,_,rfl,ifT (by decide +kernel) ?_⟩
  obtain ⟨ps,hwl,hpr⟩:=id D.rw
  have lps:=paired_len hpr
  rw [List.length_map] at lps
  refine ⟨_,rfl,st,_,rfl,g_r D.d,.inl ⟨rfl,_,.of hwl⟩,_,rfl,by show 2 <= sizeLine;decide,fun t2 ht2=>?_⟩
  have k3:Keep [] H1 (upd H1 t2 (.tup [.str "asker",.str z])):=Keep.new ht2
  have wt2:rl ≠ t2:=ne_of_none hwl ht2
  refine ⟨rl,_,_,rfl,rfl,k3 _ _ (by simp) hwl,by rw [List.length_map,sizeLine_eq];have:=D.len;omega,?_⟩
  have h3t:upd H1 t2 (.tup [.str "asker",.str z]) t2=some (.tup (rowV (askR z))):=upd_same
  have n3:∀ r,upd H1 t2 (.tup [.str "asker",.str z]) r=none->H1 r=none:=fun r h=>(upd_none h).1
  generalize upd H1 t2 (.tup [.str "asker",.str z])=H3 at k3 h3t n3 ⊢
  have k4:Keep [st,rl] H1 (upd H3 rl (.lst (ps.map V.ref ++ [.ref t2]))):=(k3.mono (by simp)).trans (Keep.at (by simp))
  have D4:=DAt.more (H3:=upd H3 rl (.lst (ps.map V.ref ++ [.ref t2]))) (x:=askR z) (by rw [upd_ne D.ne];exact k3 _ _ (by simp) D.d) (paired_keep k4 (no_tupD D.d hwl) hpr) upd_same (by rw [upd_ne (Ne.symm wt2)];exact h3t) hlen'
  refine ⟨_,rfl,st,rl,_,rfl,D4,fun r H5 D5 R5 hr5 k5=>?_⟩
  exact q r H5 D5 R5 (k01.none (by simp) (n3 r (upd_none hr5).1)) (((k01.mono (by simp)).trans k4).trans k5)
 | leave z=>
  dsimp only [gdOf,GD.wd,GD.nm]
  refine ⟨_,rfl,rfl,_,rfl,ifF (by decide +kernel) ?_⟩
  refine ⟨_,rfl,rfl,_,rfl,ifT (by decide +kernel) ?_⟩
  obtain ⟨ps,hwl,hpr⟩:=id D.rw
  obtain ⟨j,hj,hno⟩:=find_first s.row (askR z) ok
  have ef:deedF s (.leave z) = { s with row:=s.row.eraseIdx j }:=by
   show ({ s with row:=s.row.filter fun x=>decide (x ≠ askR z) }:SS)=_
   rw [filter_erase s.row (askR z) j hj hno (I.u z)]
  rw [ef] at q
  refine ⟨_,rfl,st,_,rfl,g_r D.d,.inl ⟨rfl,_,.of hwl⟩,_,rfl,by show 2 <= sizeLine;decide,fun t2 ht2=>?_⟩
  have k3:Keep [] H1 (upd H1 t2 (.tup [.str "asker",.str z])):=Keep.new ht2
  have hn13:∀ b ∈ ([]:List Addr),∀ xs,H1 b ≠ some (.tup xs):=fun b hb=>by cases hb
  refine ⟨rl,t2,_,s.row.map rowV,j,ps,rfl,rfl,k3 _ _ (by simp) hwl,paired_keep k3 hn13 hpr,upd_same,rfl,rowV_flat _,⟨rowV (askR z),by rw [List.getElem?_map,hj];rfl,by
   show eqT (rowV (askR z)) (rowV (askR z))=true
   rw [eqT_row];exact decide_eq_true rfl⟩,(fun m r hm e=>by
   rw [List.getElem?_map] at e
   cases hx:s.row[m]? with
   | none=>rw [hx] at e;cases e
   | some y=>
    rw [hx] at e
    have e':rowV y=r:=Option.some.inj e
    rw [<- e']
    show eqT (rowV y) (rowV (askR z))=false
    rw [eqT_row]
    exact decide_eq_false (fun w=>hno m hm (by rw [hx,w]))),?_⟩
  have n3:∀ r,upd H1 t2 (.tup [.str "asker",.str z]) r=none->H1 r=none:=fun r h=>(upd_none h).1
  generalize upd H1 t2 (.tup [.str "asker",.str z])=H3 at k3 n3 ⊢
  have k4:Keep [st,rl] H1 (upd H3 rl (.lst ((ps.eraseIdx j).map V.ref))):=(k3.mono (by simp)).trans (Keep.at (by simp))
  have D4:DAt (upd H3 rl (.lst ((ps.eraseIdx j).map V.ref))) st rl { s with row:=s.row.eraseIdx j }:=by
   refine ⟨by rw [upd_ne D.ne];exact k3 _ _ (by simp) D.d,⟨ps.eraseIdx j,upd_same,?_⟩,Nat.le_trans (len_erase s.row j) D.len⟩
   show Paired _ _ ((s.row.eraseIdx j).map rowV)
   rw [<- map_erase rowV]
   exact paired_erase j (paired_keep k4 (no_tupD D.d hwl) hpr)
  refine ⟨_,rfl,st,rl,_,rfl,D4,fun r H5 D5 R5 hr5 k5=>?_⟩
  exact q r H5 D5 R5 (k01.none (by simp) (n3 r (upd_none hr5).1)) (((k01.mono (by simp)).trans k4).trans k5)
 | done z=>
  dsimp only [gdOf,GD.wd,GD.nm]
  refine ⟨_,rfl,rfl,_,rfl,ifF (by decide +kernel) ?_⟩
  refine ⟨_,rfl,rfl,_,rfl,ifF (by decide +kernel) ?_⟩
  refine ⟨_,rfl,rfl,_,rfl,ifT (by decide +kernel) ?_⟩
  refine ⟨_,rfl,st,_,rfl,p_h D.d .non,?_⟩
  have k4:Keep [st,rl] H1 (upd H1 st (.dK (mkD (optV s.ptr) rl .non s.asked))):=Keep.at (by simp)
  obtain ⟨ps,hwl,hpr⟩:=id D.rw
  have D4:DAt (upd H1 st (.dK (mkD (optV s.ptr) rl .non s.asked))) st rl { s with hold:=none }:=⟨upd_same,⟨ps,by rw [upd_ne (Ne.symm D.ne)];exact hwl,paired_keep k4 (no_tupD D.d hwl) hpr⟩,D.len⟩
  refine ⟨_,rfl,st,rl,_,rfl,D4,fun r H5 D5 R5 hr5 k5=>?_⟩
  exact q r H5 D5 R5 (k01.none (by simp) (upd_none hr5).1) (((k01.mono (by simp)).trans k4).trans k5)
 | ask z=>
  dsimp only [gdOf,GD.wd,GD.nm]
  refine ⟨_,rfl,rfl,_,rfl,ifF (by decide +kernel) ?_⟩
  refine ⟨_,rfl,rfl,_,rfl,ifF (by decide +kernel) ?_⟩
  refine ⟨_,rfl,rfl,_,rfl,ifF (by decide +kernel) ?_⟩
  refine ⟨_,rfl,rfl,_,rfl,ifT (by decide +kernel) ?_⟩
  obtain ⟨ps,hwl,hpr⟩:=id D.rw
  have lps:=paired_len hpr
  rw [List.length_map] at lps
  refine ⟨_,rfl,st,_,rfl,g_r D.d,.inl ⟨rfl,_,.of hwl⟩,_,rfl,by show 2 <= sizeLine;decide,fun t2 ht2=>?_⟩
  have k3:Keep [] H1 (upd H1 t2 (.tup [.str "house",.str z])):=Keep.new ht2
  have wt2:rl ≠ t2:=ne_of_none hwl ht2
  refine ⟨rl,_,_,rfl,rfl,k3 _ _ (by simp) hwl,by rw [List.length_map,sizeLine_eq];have:=D.len;omega,?_⟩
  have h3t:upd H1 t2 (.tup [.str "house",.str z]) t2=some (.tup (rowV (hsR z))):=upd_same
  have n3:∀ r,upd H1 t2 (.tup [.str "house",.str z]) r=none->H1 r=none:=fun r h=>(upd_none h).1
  generalize upd H1 t2 (.tup [.str "house",.str z])=H3 at k3 h3t n3 ⊢
  have k4:Keep [st,rl] H1 (upd H3 rl (.lst (ps.map V.ref ++ [.ref t2]))):=(k3.mono (by simp)).trans (Keep.at (by simp))
  have D4:=DAt.more (H3:=upd H3 rl (.lst (ps.map V.ref ++ [.ref t2]))) (x:=hsR z) (by rw [upd_ne D.ne];exact k3 _ _ (by simp) D.d) (paired_keep k4 (no_tupD D.d hwl) hpr) upd_same (by rw [upd_ne (Ne.symm wt2)];exact h3t) hlen'
  refine ⟨_,rfl,st,rl,_,rfl,D4,fun r H5 D5 R5 hr5 k5=>?_⟩
  exact q r H5 D5 R5 (k01.none (by simp) (n3 r (upd_none hr5).1)) (((k01.mono (by simp)).trans k4).trans k5)
 | come z b=>
  dsimp only [gdOf,GD.wd,GD.nm]
  refine ⟨_,rfl,rfl,_,rfl,ifF (by decide +kernel) ?_⟩
  refine ⟨_,rfl,rfl,_,rfl,ifF (by decide +kernel) ?_⟩
  refine ⟨_,rfl,rfl,_,rfl,ifF (by decide +kernel) ?_⟩
  refine ⟨_,rfl,rfl,_,rfl,ifF (by decide +kernel) ?_⟩
  refine ⟨_,rfl,st,_,rfl,p_a D.d .non,?_⟩
  refine ⟨_,rfl,st,_,rfl,p_k upd_same false,?_⟩
  rw [upd_upd]
  obtain ⟨ps0,hwl0,hpr0⟩:=id D.rw
  have kc:Keep [st,rl] H1 (upd H1 st (.dK (mkD .non rl (optV s.hold) false))):=Keep.at (by simp)
  have Dc:DAt (upd H1 st (.dK (mkD .non rl (optV s.hold) false))) st rl { s with ptr:=none,asked:=false }:=⟨upd_same,⟨ps0,by rw [upd_ne (Ne.symm D.ne)];exact hwl0,paired_keep kc (no_tupD D.d hwl0) hpr0⟩,D.len⟩
  have htc:upd H1 st (.dK (mkD .non rl (optV s.hold) false)) t=some (.tup [.str "come",.str z,.bl b]):=by
   rw [upd_ne (ne_of ht1 D.d (by intro z;cases z))];exact ht1
  have nc:∀ r,upd H1 st (.dK (mkD .non rl (optV s.hold) false)) r=none->H1 r=none:=fun r h=>(upd_none h).1
  clear D
  generalize upd H1 st (.dK (mkD .non rl (optV s.hold) false))=H2 at kc Dc htc nc ⊢
  refine ⟨_,rfl,t,_,2,_,rfl,rfl,htc,at2 _ _ _ _,_,rfl,?_⟩
  have kk:Keep [st,rl] H H2:=(k01.mono (by simp)).trans kc
  have nn:∀ r,H2 r=none->H r=none:=fun r h=>k01.none (by simp) (nc r h)
  cases b with
  | false=>
   refine ifF rfl ?_
   refine ⟨_,rfl,st,rl,_,rfl,Dc,fun r H5 D5 R5 hr5 k5=>?_⟩
   exact q r H5 D5 R5 (nn r hr5) (kk.trans k5)
  | true=>
   refine ifT rfl ?_
   obtain ⟨ps,hwl,hpr⟩:=id Dc.rw
   have lps:=paired_len hpr
   rw [List.length_map] at lps
   refine ⟨_,rfl,st,_,rfl,g_r Dc.d,.inl ⟨rfl,_,.of hwl⟩,_,rfl,by show 2 <= sizeLine;decide,fun t2 ht2=>?_⟩
   have k3:Keep [] H2 (upd H2 t2 (.tup [.str "house",.str z])):=Keep.new ht2
   have wt2:rl ≠ t2:=ne_of_none hwl ht2
   refine ⟨rl,_,_,rfl,rfl,k3 _ _ (by simp) hwl,by rw [List.length_map,sizeLine_eq];have:=Dc.len;omega,?_⟩
   have h3t:upd H2 t2 (.tup [.str "house",.str z]) t2=some (.tup (rowV (hsR z))):=upd_same
   have n3:∀ r,upd H2 t2 (.tup [.str "house",.str z]) r=none->H2 r=none:=fun r h=>(upd_none h).1
   generalize upd H2 t2 (.tup [.str "house",.str z])=H3 at k3 h3t n3 ⊢
   have k4:Keep [st,rl] H2 (upd H3 rl (.lst (ps.map V.ref ++ [.ref t2]))):=(k3.mono (by simp)).trans (Keep.at (by simp))
   have D4:=DAt.more (s:={ s with ptr:=none,asked:=false }) (H3:=upd H3 rl (.lst (ps.map V.ref ++ [.ref t2]))) (x:=hsR z) (by rw [upd_ne Dc.ne];exact k3 _ _ (by simp) Dc.d) (paired_keep k4 (no_tupD Dc.d hwl) hpr) upd_same (by rw [upd_ne (Ne.symm wt2)];exact h3t) hlen'
   refine ⟨_,rfl,st,rl,_,rfl,D4,fun r H5 D5 R5 hr5 k5=>?_⟩
   exact q r H5 D5 R5 (nn _ (n3 r (upd_none hr5).1)) ((kk.trans k4).trans k5)
end
def Res.bv:Res->V
 | .told _=>.non
 | .bad i=>.str (wordOf i)
theorem scalO2 (z:Str) (o:Option Str):scal (optV o) (.str z)=true:=by cases o <;> rfl
theorem decO2 (z:Str) (o:Option Str):decide (optV o=V.str z)=decide (o=some z):=by
 cases o with
 | none=>simp [optV]
 | some y=>simp [optV]
theorem in_row {H:Hp} {Q:VK} {p t:Addr} {row:List (Str × Str)} {x:Str × Str} (R:Rows H p (row.map rowV)) (ht:H t=some (.tup (rowV x))) (q:Q (.bl (decide (x ∈ row))) H):rInT false (.ref t) (.ref p) H Q:=
 ⟨p,t,_,row.map rowV,rfl,rfl,R,ht,rfl,rowV_flat _,by
  show Q (.bl ((row.map rowV).any fun r=>eqT r (rowV x))) H
  rw [any_row];exact q⟩
theorem plain_b {K:PySem.W.Frag} {H:Hp} {y:V} {T:String} (p:PlainT K H y T):(T == "bool")=isB y:=by cases p <;> rfl
theorem no_odd {z:Str} (gz:GoodN z) (h:nameV (.str z)=false):False:=by
 have:nameS z=false:=h
 rw [gz.1] at this;cases this
section
variable {N:List Str} {s:SS} {v:Res} {z:Str}
theorem bv_want (gz:GoodN z) (ver:Ver N s (.want (.str z)) v):v.bv=if (decide (askR z ∈ s.row) || decide (s.hold=some z))=true then .str "asker" else .non:=by
 cases ver with
 | odd _ h=>exact (no_odd gz h).elim
 | told d e g0 ok=>cases d with
  | want z=>cases e;rw [decide_eq_false ok.2.1,decide_eq_false ok.1];rfl
  | _=>cases e
 | want g0 hb=>rcases hb with h | h <;> rw [decide_eq_true h] <;> simp <;> rfl
theorem bv_leave (gz:GoodN z) (ver:Ver N s (.leave (.str z)) v):v.bv=if decide (askR z ∈ s.row)=true then .non else .str "asker":=by
 cases ver with
 | odd _ h=>exact (no_odd gz h).elim
 | told d e g0 ok=>cases d with
  | leave z=>cases e;rw [decide_eq_true (show askR z ∈ s.row from ok)];rfl
  | _=>cases e
 | leave g0 hb=>rw [decide_eq_false hb];rfl
theorem bv_done (gz:GoodN z) (ver:Ver N s (.done (.str z)) v):v.bv=if decide (s.hold=some z)=true then .non else .str "asker":=by
 cases ver with
 | odd _ h=>exact (no_odd gz h).elim
 | told d e g0 ok=>cases d with
  | done z=>cases e;rw [decide_eq_true (show s.hold=some z from ok)];rfl
  | _=>cases e
 | done g0 hb=>rw [decide_eq_false hb];rfl
theorem bv_ask (gz:GoodN z) (ver:Ver N s (.ask (.str z)) v):v.bv=if (decide (hsR z ∈ s.row) || decide (s.ptr=some z))=true then .str "letter" else .non:=by
 cases ver with
 | odd _ h=>exact (no_odd gz h).elim
 | told d e g0 ok=>cases d with
  | ask z=>cases e;rw [decide_eq_false ok.2.1,decide_eq_false ok.1];rfl
  | _=>cases e
 | ask g0 hb=>rcases hb with h | h <;> rw [decide_eq_true h] <;> simp <;> rfl
theorem bv_come {y:V} (gz:GoodN z) (ver:Ver N s (.come (.str z) y) v):v.bv=if (decide (s.ptr=some z) && isB y)=true then .non else .str "letter":=by
 cases ver with
 | odd _ h=>exact (no_odd gz h).elim
 | told d e g0 ok=>cases d with
  | come z b=>cases e;rw [decide_eq_true (show s.ptr=some z from ok)];rfl
  | _=>cases e
 | come g0 hb=>rw [decide_eq_false hb];rfl
 | back g0 h1 h2=>rw [decide_eq_true h1,h2];rfl
end
section
variable {P:Program} {w:World} {K:PySem.W.Frag} {mg:Str->Option Value} {base:Heap} {C:Addr}
theorem scBad:FnScope ["_law_state_here","_law_deed","_law_word","_law_name","_law_waits","_law_inside","_law_good"] ["_law_state_here","_law_deed"] (defScope sBad):=⟨rfl,rfl,rfl,by decide +kernel,rfl,by decide +kernel,by decide +kernel⟩
def spBad (K:PySem.W.Frag):Sp:=fun vs H Q _=>∃ (N:List Str) (st rl t:Addr) (s:SS) (g:GD) (v:Res) (z:Str),vs=[.ref st,.ref t]/\DAt H st rl s/\H t=some (.tup (gdV g))/\PG K H g/\g.nm=.str z/\GoodN z/\Ver N s g v /\
 ∀ H',Keep [] H H'->Q v.bv H'
theorem okBad (G:FunG K mg "_law_bad" sBad ["_law_state_here","_law_deed"]) (b_isinstance:Blt mg "isinstance") (b_bool:Blt mg "bool") (b_int:Blt mg "int"):Cal P w K mg base CX0 1 "_law_bad" ["_law_state_here","_law_deed"] (spBad K):=by
 refine G.ok scBad (fun vs H Q E h=>by obtain ⟨N,st,rl,t,s,g,v,z,rfl,_⟩:=h;rfl) (fun f cdv A outer s0 H vs Q E hr h=>?_)
 obtain ⟨N,st,rl,t,s,g,v,z,rfl,D0,ht,pg,hz,gz,ver,q⟩:=h
 have hu:=hu_of hr
 refine ⟨_,(pss_cons (ps_asg (pe_slice sl_tupW (pv 1) po_none (po_some pe_int)) (pg_tup rfl (pgs_cons (pg_name (i:=2) scBad.nd rfl (Or.inl rfl)) (pgs_cons (pg_name (i:=3) scBad.nd rfl (Or.inl rfl)) pgs_nil))))
   (pss_cons (ps_if (pt_cmpR op_in_seq (pv 2) (pe_tup (pa_cons pe_str (pa_cons pe_str (pa_cons pe_str pa_nil)))) (by with_unfolding_all rfl)) (pss_cons (ps_set (i:=4) scBad.nd rfl (Or.inl rfl) (pe_cmpR (op_inT hu) (pe_tup (pa_cons pe_str (pa_cons (pv 3) pa_nil))) (pe_dget hu (pv 0) pe_str (fun _ _=>rfl)) (by with_unfolding_all rfl)))
   (pss_cons (ps_set (i:=5) scBad.nd rfl (Or.inl rfl) (pe_cmpR op_eq (pe_dget hu (pv 0) pe_str (fun _ _=>rfl)) (pv 3) (nomark _)))
   (pss_cons (ps_set (i:=6) scBad.nd rfl (Or.inl rfl) (pe_and (pe_not (pv 4)) (pe_one (pe_not (pv 5)))))
   (pss_cons (ps_if (pt_cmpR op_ne (pv 2) pe_str (nomark _)) (pss_one (ps_set (i:=6) scBad.nd rfl (Or.inl rfl) (pe_ix ix_lstH (pe_lst (pa_cons (pv 4) (pa_cons (pv 5) pa_nil))) (pe_callTy call_int1 rfl b_int.no bo_int (pa_cons (pe_cmpR op_eq (pv 2) pe_str (nomark _)) pa_nil)) (fun _ _=>rfl)))) pss_nil)
   (pss_one (ps_ret (pe_ix ix_lstH (pe_lst (pa_cons pe_str (pa_cons pe_non pa_nil))) (pe_callTy call_int1 rfl b_int.no bo_int (pa_cons (pv 6) pa_nil)) (fun _ _=>rfl)))))))) pss_nil)
   (pss_cons (ps_set (i:=4) scBad.nd rfl (Or.inl rfl) (pe_cmpR (op_inT hu) (pe_tup (pa_cons pe_str (pa_cons (pv 3) pa_nil))) (pe_dget hu (pv 0) pe_str (fun _ _=>rfl)) (by with_unfolding_all rfl)))
   (pss_cons (ps_if (pt_cmpR op_eq (pv 2) pe_str (nomark _)) (pss_one (ps_ret (pe_ix ix_lstH (pe_lst (pa_cons pe_str (pa_cons pe_non pa_nil))) (pe_callTy call_int1 rfl b_int.no bo_int (pa_cons (pe_and (pe_not (pv 4)) (pe_one (pe_cmpR op_ne (pe_dget hu (pv 0) pe_str (fun _ _=>rfl)) (pv 3) (nomark _)))) pa_nil)) (fun _ _=>rfl)))) pss_nil)
   (pss_one (ps_ret (pe_ix ix_lstH (pe_lst (pa_cons pe_str (pa_cons pe_non pa_nil))) (pe_callTy call_int1 rfl b_int.no bo_int (pa_cons (pe_and (pe_cmpR op_eq (pe_dget hu (pv 0) pe_str (fun _ _=>rfl)) (pv 3) (nomark _)) (pe_one (pe_blt call_isinst b_isinstance bo_isinstance (pa_cons (pe_ix ix_tupH (pv 1) pe_int (fun _ _=>rfl)) (pa_cons (pe_ty b_bool bo_bool) pa_nil))))) pa_nil)) (fun _ _=>rfl)))))))),?_⟩
 refine ⟨_,rfl,_,rfl,gd_cut ht fun u H1 k01 hu1=>?_⟩
 refine ⟨u,_,rfl,.of hu1,rfl,_,_,rfl,_,_,rfl,rfl,?_⟩
 rw [hz] at hu1 ⊢
 have D:=D0.keep k01
 have ht1:=k01 _ _ (by simp) ht
 have fin:∀ (a:Str) (b:Bool) (H2:Hp),Keep [] H1 H2->v.bv=(if b=true then .non else .str a)->∀ l,H2 l=none->rIxH (.ref l) (.int (if b=true then 1 else 0)) (upd H2 l (.lst [.str a,.non])) Q:=fun a b H2 k e l hl=>by
  refine ⟨l,_,_,v.bv,rfl,rfl,upd_same,?_,q _ (k01.trans (k.trans (Keep.new hl)))⟩
  rw [e]
  cases b
  ·exact at0 _ _
  ·exact at1 _ _ _
 cases g with
 | want x=>
  obtain rfl:x=.str z:=hz
  have vb:=bv_want gz ver
  dsimp only [GD.wd]
  refine ⟨_,rfl,by show 3 <= sizeLine;decide,fun tp htp=>⟨tp,_,rfl,.inr (.of upd_same),rfl,rfl,_,rfl,ifT (by decide +kernel) ?_⟩⟩
  have kt:Keep [] H1 (upd H1 tp (.tup [.str "want",.str "leave",.str "done"])):=Keep.new htp
  generalize upd H1 tp (.tup [.str "want",.str "leave",.str "done"])=H2 at kt ⊢
  have D2:=D.keep kt
  refine ⟨_,rfl,by show 2 <= sizeLine;decide,fun t2 ht2=>?_⟩
  have k2:Keep [] H2 (upd H2 t2 (.tup [.str "asker",.str z])):=Keep.new ht2
  have D3:=D2.keep k2
  refine ⟨_,rfl,st,_,rfl,g_r D3.d,in_row (x:=askR z) D3.rw upd_same ?_⟩
  have k3:Keep [] H1 (upd H2 t2 (.tup [.str "asker",.str z])):=kt.trans k2
  generalize upd H2 t2 (.tup [.str "asker",.str z])=H3 at k2 k3 D3 ⊢
  refine ⟨_,rfl,st,_,rfl,g_h D3.d,_,rfl,scalO2 _ _,?_⟩
  refine ⟨_,rfl,_,rfl,_,rfl,?_⟩
  by_cases hw:askR z ∈ s.row
  ·refine ifF (by rw [decide_eq_true hw];rfl) ?_
   refine ⟨_,rfl,rfl,_,rfl,ifF (by decide +kernel) ?_⟩
   exact ⟨by show 2 <= sizeLine;decide,fun l hl=>⟨_,rfl,.inr ⟨_,rfl,fin "asker" false _ k3 (by rw [vb,decide_eq_true hw];rfl) l hl⟩⟩⟩
  ·refine ifT (by rw [decide_eq_false hw];rfl) ?_
   refine ⟨_,rfl,_,rfl,?_⟩
   refine ⟨_,rfl,rfl,_,rfl,ifF (by decide +kernel) ?_⟩
   exact ⟨by show 2 <= sizeLine;decide,fun l hl=>⟨_,rfl,.inr ⟨_,rfl,fin "asker" (!decide (optV s.hold=.str z)) _ k3 (by rw [vb,decide_eq_false hw,decO2];cases decide (s.hold=some z) <;> rfl) l hl⟩⟩⟩
 | leave x=>
  obtain rfl:x=.str z:=hz
  have vb:=bv_leave gz ver
  dsimp only [GD.wd]
  refine ⟨_,rfl,by show 3 <= sizeLine;decide,fun tp htp=>⟨tp,_,rfl,.inr (.of upd_same),rfl,rfl,_,rfl,ifT (by decide +kernel) ?_⟩⟩
  have kt:Keep [] H1 (upd H1 tp (.tup [.str "want",.str "leave",.str "done"])):=Keep.new htp
  generalize upd H1 tp (.tup [.str "want",.str "leave",.str "done"])=H2 at kt ⊢
  have D2:=D.keep kt
  refine ⟨_,rfl,by show 2 <= sizeLine;decide,fun t2 ht2=>?_⟩
  have k2:Keep [] H2 (upd H2 t2 (.tup [.str "asker",.str z])):=Keep.new ht2
  have D3:=D2.keep k2
  refine ⟨_,rfl,st,_,rfl,g_r D3.d,in_row (x:=askR z) D3.rw upd_same ?_⟩
  have k3:Keep [] H1 (upd H2 t2 (.tup [.str "asker",.str z])):=kt.trans k2
  generalize upd H2 t2 (.tup [.str "asker",.str z])=H3 at k2 k3 D3 ⊢
  refine ⟨_,rfl,st,_,rfl,g_h D3.d,_,rfl,scalO2 _ _,?_⟩
  refine ⟨_,rfl,_,rfl,_,rfl,?_⟩
  by_cases hw:askR z ∈ s.row
  ·refine ifF (by rw [decide_eq_true hw];rfl) ?_
   refine ⟨_,rfl,rfl,_,rfl,ifT (by decide +kernel) ?_⟩
   refine ⟨_,rfl,_,rfl,by show 2 <= sizeLine;decide,fun l0 hl0=>⟨_,rfl,rfl,.inr ⟨_,rfl,l0,_,_,.bl (decide (askR z ∈ s.row)),rfl,rfl,upd_same,show atI _ (if decide (V.str "leave"=V.str "done")=true then 1 else 0)=_ from by rw [if_neg (by decide +kernel)];exact at0 _ _,?_⟩⟩⟩
   exact ⟨by show 2 <= sizeLine;decide,fun l hl=>⟨_,rfl,.inr ⟨_,rfl,fin "asker" (decide (askR z ∈ s.row)) _ (k3.trans (Keep.new hl0)) (by rw [vb]) l hl⟩⟩⟩
  ·refine ifT (by rw [decide_eq_false hw];rfl) ?_
   refine ⟨_,rfl,_,rfl,?_⟩
   refine ⟨_,rfl,rfl,_,rfl,ifT (by decide +kernel) ?_⟩
   refine ⟨_,rfl,_,rfl,by show 2 <= sizeLine;decide,fun l0 hl0=>⟨_,rfl,rfl,.inr ⟨_,rfl,l0,_,_,.bl (decide (askR z ∈ s.row)),rfl,rfl,upd_same,show atI _ (if decide (V.str "leave"=V.str "done")=true then 1 else 0)=_ from by rw [if_neg (by decide +kernel)];exact at0 _ _,?_⟩⟩⟩
   exact ⟨by show 2 <= sizeLine;decide,fun l hl=>⟨_,rfl,.inr ⟨_,rfl,fin "asker" (decide (askR z ∈ s.row)) _ (k3.trans (Keep.new hl0)) (by rw [vb]) l hl⟩⟩⟩
 | done x=>
  obtain rfl:x=.str z:=hz
  have vb:=bv_done gz ver
  dsimp only [GD.wd]
  refine ⟨_,rfl,by show 3 <= sizeLine;decide,fun tp htp=>⟨tp,_,rfl,.inr (.of upd_same),rfl,rfl,_,rfl,ifT (by decide +kernel) ?_⟩⟩
  have kt:Keep [] H1 (upd H1 tp (.tup [.str "want",.str "leave",.str "done"])):=Keep.new htp
  generalize upd H1 tp (.tup [.str "want",.str "leave",.str "done"])=H2 at kt ⊢
  have D2:=D.keep kt
  refine ⟨_,rfl,by show 2 <= sizeLine;decide,fun t2 ht2=>?_⟩
  have k2:Keep [] H2 (upd H2 t2 (.tup [.str "asker",.str z])):=Keep.new ht2
  have D3:=D2.keep k2
  refine ⟨_,rfl,st,_,rfl,g_r D3.d,in_row (x:=askR z) D3.rw upd_same ?_⟩
  have k3:Keep [] H1 (upd H2 t2 (.tup [.str "asker",.str z])):=kt.trans k2
  generalize upd H2 t2 (.tup [.str "asker",.str z])=H3 at k2 k3 D3 ⊢
  refine ⟨_,rfl,st,_,rfl,g_h D3.d,_,rfl,scalO2 _ _,?_⟩
  refine ⟨_,rfl,_,rfl,_,rfl,?_⟩
  by_cases hw:askR z ∈ s.row
  ·refine ifF (by rw [decide_eq_true hw];rfl) ?_
   refine ⟨_,rfl,rfl,_,rfl,ifT (by decide +kernel) ?_⟩
   refine ⟨_,rfl,_,rfl,by show 2 <= sizeLine;decide,fun l0 hl0=>⟨_,rfl,rfl,.inr ⟨_,rfl,l0,_,_,.bl (decide (optV s.hold=.str z)),rfl,rfl,upd_same,show atI _ (if decide (V.str "done"=V.str "done")=true then 1 else 0)=_ from by rw [if_pos (by decide +kernel)];exact at1 _ _ _,?_⟩⟩⟩
   exact ⟨by show 2 <= sizeLine;decide,fun l hl=>⟨_,rfl,.inr ⟨_,rfl,fin "asker" (decide (optV s.hold=.str z)) _ (k3.trans (Keep.new hl0)) (by rw [vb,decO2]) l hl⟩⟩⟩
  ·refine ifT (by rw [decide_eq_false hw];rfl) ?_
   refine ⟨_,rfl,_,rfl,?_⟩
   refine ⟨_,rfl,rfl,_,rfl,ifT (by decide +kernel) ?_⟩
   refine ⟨_,rfl,_,rfl,by show 2 <= sizeLine;decide,fun l0 hl0=>⟨_,rfl,rfl,.inr ⟨_,rfl,l0,_,_,.bl (decide (optV s.hold=.str z)),rfl,rfl,upd_same,show atI _ (if decide (V.str "done"=V.str "done")=true then 1 else 0)=_ from by rw [if_pos (by decide +kernel)];exact at1 _ _ _,?_⟩⟩⟩
   exact ⟨by show 2 <= sizeLine;decide,fun l hl=>⟨_,rfl,.inr ⟨_,rfl,fin "asker" (decide (optV s.hold=.str z)) _ (k3.trans (Keep.new hl0)) (by rw [vb,decO2]) l hl⟩⟩⟩
 | ask x=>
  obtain rfl:x=.str z:=hz
  have vb:=bv_ask gz ver
  dsimp only [GD.wd]
  refine ⟨_,rfl,by show 3 <= sizeLine;decide,fun tp htp=>⟨tp,_,rfl,.inr (.of upd_same),rfl,rfl,_,rfl,ifF (by decide +kernel) ?_⟩⟩
  have kt:Keep [] H1 (upd H1 tp (.tup [.str "want",.str "leave",.str "done"])):=Keep.new htp
  generalize upd H1 tp (.tup [.str "want",.str "leave",.str "done"])=H2 at kt ⊢
  have D2:=D.keep kt
  refine ⟨_,rfl,by show 2 <= sizeLine;decide,fun t2 ht2=>?_⟩
  have k2:Keep [] H2 (upd H2 t2 (.tup [.str "house",.str z])):=Keep.new ht2
  have D3:=D2.keep k2
  refine ⟨_,rfl,st,_,rfl,g_r D3.d,in_row (x:=hsR z) D3.rw upd_same ?_⟩
  have k3:Keep [] H1 (upd H2 t2 (.tup [.str "house",.str z])):=kt.trans k2
  generalize upd H2 t2 (.tup [.str "house",.str z])=H3 at k2 k3 D3 ⊢
  refine ⟨_,rfl,rfl,_,rfl,ifT (by decide +kernel) ?_⟩
  refine ⟨by show 2 <= sizeLine;decide,fun l hl=>⟨_,rfl,_,rfl,_,rfl,?_⟩⟩
  by_cases hw:hsR z ∈ s.row
  ·exact ifF (by rw [decide_eq_true hw];rfl) (.inr ⟨_,rfl,fin "letter" false _ k3 (by rw [vb,decide_eq_true hw];rfl) l hl⟩)
  ·refine ifT (by rw [decide_eq_false hw];rfl) ?_
   exact ⟨_,rfl,st,_,rfl,g_a (D3.keep (Keep.new hl)).d,_,rfl,scalO2 _ _,.inr ⟨_,rfl,fin "letter" (!decide (optV s.ptr=.str z)) _ k3 (by rw [vb,decide_eq_false hw,decO2];cases decide (s.ptr=some z) <;> rfl) l hl⟩⟩
 | come x y=>
  obtain rfl:x=.str z:=hz
  have vb:=bv_come gz ver
  obtain ⟨Ty,pty⟩:=pg.pb
  dsimp only [GD.wd]
  refine ⟨_,rfl,by show 3 <= sizeLine;decide,fun tp htp=>⟨tp,_,rfl,.inr (.of upd_same),rfl,rfl,_,rfl,ifF (by decide +kernel) ?_⟩⟩
  have kt:Keep [] H1 (upd H1 tp (.tup [.str "want",.str "leave",.str "done"])):=Keep.new htp
  generalize upd H1 tp (.tup [.str "want",.str "leave",.str "done"])=H2 at kt ⊢
  have D2:=D.keep kt
  refine ⟨_,rfl,by show 2 <= sizeLine;decide,fun t2 ht2=>?_⟩
  have k2:Keep [] H2 (upd H2 t2 (.tup [.str "house",.str z])):=Keep.new ht2
  have D3:=D2.keep k2
  refine ⟨_,rfl,st,_,rfl,g_r D3.d,in_row (x:=hsR z) D3.rw upd_same ?_⟩
  have k3:Keep [] H1 (upd H2 t2 (.tup [.str "house",.str z])):=kt.trans k2
  generalize upd H2 t2 (.tup [.str "house",.str z])=H3 at k2 k3 D3 ⊢
  refine ⟨_,rfl,rfl,_,rfl,ifF (by decide +kernel) ?_⟩
  refine ⟨by show 2 <= sizeLine;decide,fun l hl=>⟨_,rfl,st,_,rfl,g_a (D3.keep (Keep.new hl)).d,_,rfl,scalO2 _ _,_,rfl,?_⟩⟩
  by_cases hp:s.ptr=some z
  ·have pty':=pty.keep ((k01.trans k3).trans (Keep.new (p:=l) (o:=.lst [.str "letter",.non]) hl))
   exact ifT (by rw [decO2];exact decide_eq_true hp) ⟨_,rfl,t,_,2,_,rfl,rfl,(k3.trans (Keep.new hl)) _ _ (by simp) ht1,at2 _ _ _ _,y,_,_,_,rfl,pty'.ty,pty'.kit.2.2.1,.inr ⟨_,rfl,fin "letter" (Ty == "bool") _ k3 (by rw [vb,decide_eq_true hp,plain_b pty];show _=(if isB y=true then _ else _);cases isB y <;> rfl) l hl⟩⟩
  ·exact ifF (by rw [decO2];exact decide_eq_false hp) (.inr ⟨_,rfl,fin "letter" false _ k3 (by rw [vb,decide_eq_false hp];rfl) l hl⟩)
end
abbrev sWhy:Stmt:=top 42
section
variable {P:Program} {w:World} {K:PySem.W.Frag} {mg:Str->Option Value} {base:Heap} {C:Addr}
theorem scWhy:FnScope ["_law_state_here","_law_deed","_law_name","_law_good"] ["_law_state_here","_law_deed"] (defScope sWhy):=⟨rfl,rfl,rfl,by decide +kernel,rfl,by decide +kernel,by decide +kernel⟩
theorem gd_in (g:GD):inV (.str g.wd) [.str "want",.str "leave",.str "done"]=decide (g.cls=3):=by cases g <;> rfl
theorem gd_word (g:GD):atI [V.str "house",.str "asker"] (if inV (.str g.wd) [.str "want",.str "leave",.str "done"]=true then 1 else 0)=some (.str (wordOf g.cls)):=by
 rw [gd_in]
 cases g with
 | want x=>exact at1 _ _ _
 | leave x=>exact at1 _ _ _
 | done x=>exact at1 _ _ _
 | ask x=>exact at0 _ _
 | come x y=>exact at0 _ _
theorem ver_odd {N:List Str} {s:SS} {g:GD} {v:Res} (ver:Ver N s g v) (hodd:nameV g.nm=false):v=.bad g.cls:=by
 cases ver with
 | odd _ _=>rfl
 | told d e g0 ok=>
  have e2:g.nm=.str d.nm:=by rw [e];exact gd_nm d
  rw [e2] at hodd
  exact (no_odd g0.2 hodd).elim
 | want g0 _=>exact (no_odd g0.2 hodd).elim
 | leave g0 _=>exact (no_odd g0.2 hodd).elim
 | done g0 _=>exact (no_odd g0.2 hodd).elim
 | ask g0 _=>exact (no_odd g0.2 hodd).elim
 | come g0 _=>exact (no_odd g0.2 hodd).elim
 | back g0 _ _=>exact (no_odd g0.2 hodd).elim
def spWhy (K:PySem.W.Frag):Sp:=fun vs H Q _=>∃ (N:List Str) (st rl t:Addr) (s:SS) (g:GD) (v:Res),vs=[.ref st,.ref t]/\DAt H st rl s/\H t=some (.tup (gdV g))/\PG K H g/\Ver N s g v /\
 (nameV g.nm=false \/ ∃ z,g.nm=.str z/\GoodN z)/\∀ H',Keep [] H H'->Q v.bv H'
theorem okWhy (G:FunG K mg "_law_why" sWhy ["_law_state_here","_law_deed"]) (CB:Cal P w K mg base CX0 1 "_law_bad" ["_law_state_here","_law_deed"] (spBad K)) (b_isinstance:Blt mg "isinstance") (b_str:Blt mg "str") (b_len:Blt mg "len") (b_all:Blt mg "all") (b_int:Blt mg "int"):Cal P w K mg base CX0 2 "_law_why" ["_law_state_here","_law_deed"] (spWhy K):=by
 refine G.ok scWhy (fun vs H Q E h=>by obtain ⟨N,st,rl,t,s,g,v,rfl,_⟩:=h;rfl) (fun f cdv A outer s0 H vs Q E hr h=>?_)
 obtain ⟨N,st,rl,t,s,g,v,rfl,D,ht,pg,ver,hnm,q⟩:=h
 have hr1:Room 1 _:=hr
 obtain ⟨T,pt⟩:=pg.pn
 refine ⟨_,(pss_cons (ps_set (i:=2) scWhy.nd rfl (Or.inl rfl) (pe_ix ix_tupH (pv 1) pe_int (fun _ _=>rfl)))
   (pss_cons (ps_set (i:=3) scWhy.nd rfl (Or.inl rfl) (pe_and (pe_blt call_isinst b_isinstance bo_isinstance (pa_cons (pv 2) (pa_cons (pe_ty b_str bo_str) pa_nil))) (pe_one (pe_chain op_le op_le pe_int (pe_blt call_len b_len bo_len (pa_cons (pv 2) pa_nil)) pe_int))))
   (pss_cons (ps_if (PW.pt (pw_or (pt_not (pt_val (pv 3))) (pw_or1 (pt_not (pt_val (pe_blt (call_all rfl) b_all bo_all (pa_cons (pe_lc1 (N:=["_law_state_here","_law_deed","_law_name","_law_good"]) (sc:=defScope sWhy) (ix:=[]) (by decide +kernel) (pi_str (pv 2)) (fun _ _ _ _=>pts_nil) (fun _ _ _ _=>(pe_cmpR op_in_str (pv 0) pe_str (by with_unfolding_all rfl)))) pa_nil))))))) (pss_one (ps_ret (pe_ix ix_lstH (pe_lst (pa_cons pe_str (pa_cons pe_str pa_nil))) (pe_callTy call_int1 rfl b_int.no bo_int (pa_cons (pe_cmpR op_in_seq (pe_ix ix_tupH (pv 1) pe_int (fun _ _=>rfl)) (pe_tup (pa_cons pe_str (pa_cons pe_str (pa_cons pe_str pa_nil)))) (by with_unfolding_all rfl)) pa_nil)) (fun _ _=>rfl)))) pss_nil)
   (pss_one (ps_ret (pe_cal CB hr1 (pa_cons (pv 0) (pa_cons (pv 1) pa_nil)))))))),?_⟩
 refine ⟨_,rfl,t,_,1,_,rfl,rfl,ht,gd_at1 g,?_⟩
 refine ⟨_,rfl,_,_,_,_,rfl,pt.ty,pt.kit.1,?_⟩
 generalize hgn:g.nm=x at pt hnm ⊢
 have odd:nameV x=false->nameV g.nm=false:=fun h=>by rw [hgn];exact h
 cases pt with
 | str z=>
  have hz:z.length <= 1000:=pg.sz z hgn
  refine ⟨_,rfl,ifT rfl ?_⟩
  refine ⟨_,rfl,_,z.length,rfl,⟨by rw [sizeLine_eq];omega,rfl⟩,_,_,rfl,rfl,_,rfl,?_⟩
  refine ite2 (fun h1=>?_) (fun h1=>?_)
  ·refine ⟨_,_,rfl,rfl,?_⟩
   by_cases h2:z.length <= 8
   ·refine ⟨_,rfl,_,rfl,ifF (by show (!decide ((z.length:Int) <= 8))=false;rw [decide_eq_true (by omega)];rfl) ?_⟩
    refine ⟨_,rfl,z,rfl,fun acc ha=>?_⟩
    refine lc_str0 (by rw [sizeLine_eq];show z.length < _;omega) (fun i ys τ H2=>∃ (k:Option V),τ=[k]/\ys=(z.cps.toList.take i).map (fun c=>V.bl (letterB c))/\i <= z.cps.size/\Keep [acc] H H2/\H2 acc=some (.lst ys)) ?_ ?_ ?_ ?_
    ·exact ⟨_,rfl,rfl,Nat.zero_le _,Keep.at (by simp),upd_same⟩
    ·rintro i ys τ H2 ⟨k,rfl,rfl,hi,kp,h3⟩
     exact ⟨h3,by simp;omega⟩
    ·rintro i ys τ H2 hi ⟨k,rfl,rfl,_,kp,h3⟩
     refine ⟨_,rfl,_,_,rfl,rfl,h3,_,rfl,?_,hi,kp.trans (Keep.at (by simp)),upd_same⟩
     rw [List.take_add_one,List.map_append]
     congr 1
     have e:z.cps.toList[i]?=some (z.cps.getD i 0):=by
      rw [Array.getElem?_toList,Array.getD_eq_getD_getElem?,Array.getElem?_eq_getElem hi];rfl
     rw [e];rfl
    ·rintro ys τ H2 ⟨k,rfl,rfl,_,kp,h3⟩
     have kH:Keep [] H H2:=kp.drop ha
     refine ⟨acc,z.cps.toList.map letterB,rfl,.of ?_,_,rfl,?_⟩
     ·rw [h3,List.take_of_length_le (by simp),List.map_map];rfl
     ·rw [all_map_id]
      have e:nameV (.str z)=z.cps.toList.all letterB:=by
       show (decide (1 <= z.length) && decide (z.length <= 8) && _)=_
       have e1:1 <= z.length:=by have:=of_decide_eq_true h1;omega
       rw [decide_eq_true e1,decide_eq_true h2];rfl
      rw [<- e]
      cases hn:nameV (.str z) with
      | false=>
       have hodd:=odd hn
       refine ifT rfl ?_
       exact ⟨by show 2 <= sizeLine;decide,fun l hl=>⟨_,rfl,t,_,0,_,rfl,rfl,(Keep.new (S:=[]) hl) _ _ (by simp) (kH _ _ (by simp) ht),gd_at0 g,by show 3 <= sizeLine;decide,fun tp htp=>⟨tp,_,rfl,.inr (.of upd_same),rfl,rfl,.inr ⟨_,rfl,l,_,_,.str (wordOf g.cls),rfl,rfl,(Keep.new (S:=[]) htp) _ _ (by simp) upd_same,gd_word g,(by rw [ver_odd ver hodd] at q;exact q _ ((kH.trans (Keep.new hl)).trans (Keep.new htp)))⟩⟩⟩⟩
      | true=>
       refine ifF rfl ?_
       obtain ⟨y,ey,gy⟩:=hnm.resolve_left (by rw [hn];decide)
       exact ⟨_,rfl,_,rfl,N,st,rl,t,s,g,v,y,rfl,D.keep kH,kH _ _ (by simp) ht,pg.keep kH,hgn.trans ey,gy,ver,fun H3 k3=>q _ (kH.trans k3)⟩
   ·have hodd:=odd (by
     show (decide (1 <= z.length) && decide (z.length <= 8) && _)=_
     rw [decide_eq_false h2];simp)
    have kH:Keep [] H H:=Keep.refl _
    refine ⟨_,rfl,_,rfl,ifT (by show (!decide ((z.length:Int) <= 8))=true;rw [decide_eq_false (by omega)];rfl) ?_⟩
    exact ⟨by show 2 <= sizeLine;decide,fun l hl=>⟨_,rfl,t,_,0,_,rfl,rfl,(Keep.new (S:=[]) hl) _ _ (by simp) (kH _ _ (by simp) ht),gd_at0 g,by show 3 <= sizeLine;decide,fun tp htp=>⟨tp,_,rfl,.inr (.of upd_same),rfl,rfl,.inr ⟨_,rfl,l,_,_,.str (wordOf g.cls),rfl,rfl,(Keep.new (S:=[]) htp) _ _ (by simp) upd_same,gd_word g,(by rw [ver_odd ver hodd] at q;exact q _ ((kH.trans (Keep.new hl)).trans (Keep.new htp)))⟩⟩⟩⟩
  ·have hodd:=odd (by
    show (decide (1 <= z.length) && decide (z.length <= 8) && _)=_
    have e2:¬ 1 <= z.length:=fun z'=>h1 (decide_eq_true (by omega))
    rw [decide_eq_false e2];simp)
   have kH:Keep [] H H:=Keep.refl _
   refine ⟨_,rfl,_,rfl,ifT rfl ?_⟩
   exact ⟨by show 2 <= sizeLine;decide,fun l hl=>⟨_,rfl,t,_,0,_,rfl,rfl,(Keep.new (S:=[]) hl) _ _ (by simp) (kH _ _ (by simp) ht),gd_at0 g,by show 3 <= sizeLine;decide,fun tp htp=>⟨tp,_,rfl,.inr (.of upd_same),rfl,rfl,.inr ⟨_,rfl,l,_,_,.str (wordOf g.cls),rfl,rfl,(Keep.new (S:=[]) htp) _ _ (by simp) upd_same,gd_word g,(by rw [ver_odd ver hodd] at q;exact q _ ((kH.trans (Keep.new hl)).trans (Keep.new htp)))⟩⟩⟩⟩
 | _=>
  have kH:Keep [] H H:=Keep.refl _
  have hodd:=odd rfl
  refine ⟨_,rfl,ifF rfl ?_⟩
  refine ⟨_,rfl,_,rfl,ifT rfl ?_⟩
  exact ⟨by show 2 <= sizeLine;decide,fun l hl=>⟨_,rfl,t,_,0,_,rfl,rfl,(Keep.new (S:=[]) hl) _ _ (by simp) (kH _ _ (by simp) ht),gd_at0 g,by show 3 <= sizeLine;decide,fun tp htp=>⟨tp,_,rfl,.inr (.of upd_same),rfl,rfl,.inr ⟨_,rfl,l,_,_,.str (wordOf g.cls),rfl,rfl,(Keep.new (S:=[]) htp) _ _ (by simp) upd_same,gd_word g,(by rw [ver_odd ver hodd] at q;exact q _ ((kH.trans (Keep.new hl)).trans (Keep.new htp)))⟩⟩⟩⟩
end
abbrev sDoo:Stmt:=top 41
section
variable {P:Program} {w:World} {K:PySem.W.Frag} {mg:Str->Option Value} {base:Heap} {C:Addr}
theorem scDoo:FnScope ["_law_source","_law_askers","_law_houses","_law_names_here","_law_odd_here","_law_strange","_law_backs","_law_deeds","_law_name"] ["_law_source","_law_askers","_law_houses"] (defScope sDoo):=⟨rfl,rfl,rfl,by decide +kernel,rfl,by decide +kernel,by decide +kernel⟩
theorem lc_tups {K:PySem.W.Frag} {a acc:Addr} {its:List V} {xs:List Str} {ix:List Nat} {te:TE} {σ:St} {H1:Hp} {Q:VK} {rest:List (Option V)} (mk:V->List V) (hn:its.length <= 2000) (ha:H1 acc=none) (hS:H1 a=some (.lst its))
  (hσ:stC xs ix σ=none :: rest) (hte:∀ (v:V) (H:Hp) (R:VK),(∀ t,H t=none->R (.ref t) (upd H t (.tup (mk v))))->te (some v :: rest) H R)
  (q:∀ H',Rows H' acc (its.map mk)->Keep [] H1 H'->Q (.ref acc) H'):LCW (Itl K a) xs ix (gName 0) tYes te σ H1 acc Q:=by
 have aa:a ≠ acc:=ne_of_none hS ha
 refine lc_list0 (K:=K) (a:=a) (its:=its) (by rw [sizeLine_eq];omega)
  (fun i ys τ H2=>∃ (ps:List Addr) (k:Option V),τ=k :: rest/\ys=ps.map V.ref/\Paired (fun q r=>H2 q=some (.tup r)) ps ((its.take i).map mk)/\Keep [acc] H1 H2/\H2 acc=some (.lst ys)) ?_ ?_ ?_ ?_
 ·exact ⟨[],none,hσ,rfl,.nil,Keep.at (by simp),upd_same⟩
 ·rintro i ys τ H2 ⟨ps,k,rfl,rfl,hp,kp,h2⟩
  refine ⟨h2,?_,.of (kp _ _ (by simp [aa]) hS)⟩
  have:=paired_len hp
  rw [List.length_map,List.length_take] at this
  rw [List.length_map]
  omega
 ·rintro i ys τ H2 x hi ⟨ps,k,rfl,rfl,hp,kp,h2⟩
  refine hte x H2 _ fun t ht=>?_
  have kt:Keep [] H2 (upd H2 t (.tup (mk x))):=Keep.new ht
  refine ⟨kt _ _ (by simp) h2,ps ++ [t],_,rfl,by rw [List.map_append];rfl,?_,(kp.trans (kt.mono (by simp))).trans (Keep.at (by simp)),upd_same⟩
  have ka:Keep [acc] H2 (upd (upd H2 t (.tup (mk x))) acc (.lst (ps.map V.ref ++ [.ref t]))):=(kt.mono (by simp)).trans (Keep.at (by simp))
  have ta:t ≠ acc:=by
   intro e
   rw [e,h2] at ht;cases ht
  rw [List.take_add_one,hi,List.map_append]
  refine paired_app (paired_keep ka (fun b hb xs e=>by rw [List.mem_singleton.mp hb,h2] at e;cases e) hp) (.cons ?_ .nil)
  rw [upd_ne ta];exact upd_same
 ·rintro ys τ H2 ⟨ps,k,rfl,rfl,hp,kp,h2⟩
  rw [List.take_of_length_le (Nat.le_refl _)] at hp
  exact q H2 ⟨ps,h2,hp⟩ (kp.drop ha)
theorem plain_lists {K:PySem.W.Frag} {S:List Addr} {H H':Hp} {x:V} {T:String} (p:PlainT K H x T) (k:Keep S H H') (h:∀ b ∈ S,H b=none \/ ((∃ ys,H b=some (.lst ys))/\∃ ys,H' b=some (.lst ys))):PlainT K H' x T:=by
 cases p with
 | non=>exact .non
 | bl b=>exact .bl b
 | int i=>exact .int i
 | str z=>exact .str z
 | @lst a xs e=>
  by_cases hb:a ∈ S
  ·rcases h a hb with z | ⟨_,ys,z⟩
   ·rw [z] at e;cases e
   ·exact .lst z
  ·exact .lst (k _ _ hb e)
 | @tup a xs e=>
  refine .tup (k _ _ (fun hb=>?_) e)
  rcases h a hb with z | ⟨⟨ys,z⟩,_⟩ <;> rw [z] at e <;> cases e
 | @dK a kvs e=>
  refine .dK (k _ _ (fun hb=>?_) e)
  rcases h a hb with z | ⟨⟨ys,z⟩,_⟩ <;> rw [z] at e <;> cases e
structure Dr (K:PySem.W.Frag) (H:Hp) (N:List Str) (v:V):Prop where
 pt:∃ T,PlainT K H v T
 sz:∀ z,v=.str z->z.length <= 1000
 nm:nameV v=false \/ ∃ z,v=.str z/\GN N z
theorem Dr.lists {K:PySem.W.Frag} {S:List Addr} {H H':Hp} {N:List Str} {v:V} (d:Dr K H N v) (k:Keep S H H') (h:∀ b ∈ S,H b=none \/ ((∃ ys,H b=some (.lst ys))/\∃ ys,H' b=some (.lst ys))):Dr K H' N v:=
 let ⟨T,p⟩:=d.pt
 ⟨⟨T,plain_lists p k h⟩,d.sz,d.nm⟩
theorem Dr.keep {K:PySem.W.Frag} {H H':Hp} {N:List Str} {v:V} (d:Dr K H N v) (k:Keep [] H H'):Dr K H' N v:=d.lists k fun b hb=>absurd hb List.not_mem_nil
theorem Dr.name {K:PySem.W.Frag} {H:Hp} {N:List Str} {z:Str} (g:GN N z):Dr K H N (.str z):=⟨⟨_,.str z⟩,fun y e=>by cases e;have:=g.2.2;omega,.inr ⟨z,rfl,g⟩⟩
theorem Odd.dr {K:PySem.W.Frag} {H:Hp} {N:List Str} {v:V} (o:Odd K H v):Dr K H N v:=⟨o.pt,o.sz,.inl o.nm⟩
theorem Odd.lists {K:PySem.W.Frag} {S:List Addr} {H H':Hp} {v:V} (o:Odd K H v) (k:Keep S H H') (h:∀ b ∈ S,H b=none \/ ((∃ ys,H b=some (.lst ys))/\∃ ys,H' b=some (.lst ys))):Odd K H' v:=
 let ⟨T,p⟩:=o.pt
 ⟨⟨T,plain_lists p k h⟩,o.nn,o.nm,o.sz⟩
theorem lc_filt {K:PySem.W.Frag} {a acc:Addr} {zs:List Str} {xs:List Str} {ix:List Nat} {tt:TT} {te:TE} {σ:St} {H1:Hp} {Q:VK} {rest:List (Option V)} (b:Str->Bool) (hn:zs.length <= 2000) (ha:H1 acc=none) (hS:H1 a=some (.lst (zs.map V.str)))
  (hσ:stC xs ix σ=none :: rest) (htt:∀ (z:Str) (H:Hp) (R:Bool->Hp->Prop),Keep [acc] H1 H->R (b z) H->tt (some (.str z) :: rest) H R) (hte:∀ (z:Str) (H:Hp) (R:VK),R (.str z) H->te (some (.str z) :: rest) H R)
  (q:∀ H',H' acc=some (.lst ((zs.filter b).map V.str))->Keep [] H1 H'->Q (.ref acc) H'):LCW (Itl K a) xs ix (gName 0) tt te σ H1 acc Q:=by
 have aa:a ≠ acc:=ne_of_none hS ha
 refine lc_list (K:=K) (a:=a) (its:=zs.map V.str) (by rw [List.length_map,sizeLine_eq];omega)
  (fun i ys τ H2=>∃ (k:Option V),τ=k :: rest/\ys=((zs.take i).filter b).map V.str/\Keep [acc] H1 H2/\H2 acc=some (.lst ys)) ?_ ?_ ?_ ?_
 ·exact ⟨none,hσ,rfl,Keep.at (by simp),upd_same⟩
 ·rintro i ys τ H2 ⟨k,rfl,rfl,kp,h2⟩
  refine ⟨h2,?_,.of (kp _ _ (by simp [aa]) hS)⟩
  have h3:=List.length_filter_le b (zs.take i)
  rw [List.length_map]
  rw [List.length_take] at h3
  omega
 ·rintro i ys τ H2 x hi ⟨k,rfl,rfl,kp,h2⟩
  rw [List.getElem?_map] at hi
  cases ez:zs[i]? with
  | none=>rw [ez] at hi;cases hi
  | some z=>
   rw [ez] at hi
   obtain rfl:V.str z=x:=Option.some.inj hi
   refine htt z H2 _ kp ?_
   have et:zs.take (i + 1)=zs.take i ++ [z]:=by rw [List.take_add_one,ez];rfl
   refine ite2 (fun hb=>?_) (fun hb=>?_)
   ·refine hte z H2 _ ⟨h2,_,rfl,?_,kp.trans (Keep.at (by simp)),upd_same⟩
    rw [et,List.filter_append,List.map_append,List.filter_cons_of_pos hb];rfl
   ·have e2:((zs.take (i + 1)).filter b)=(zs.take i).filter b:=by
     rw [et,List.filter_append,List.filter_cons_of_neg hb];simp
    exact ⟨_,rfl,by rw [e2],kp,h2⟩
 ·rintro ys τ H2 ⟨k,rfl,rfl,kp,h2⟩
  rw [List.length_map,List.take_of_length_le (Nat.le_refl _)] at h2
  exact q H2 h2 (kp.drop ha)
def fours (v:V):List GD:=[.want v,.leave v,.done v,.ask v]
def sixes (v:V):List GD:=[.come v (.bl true),.come v (.bl false),.come v (.int 1),.come v (.int 0),.come v .non,.come v (.str "back")]
theorem Dr.four {K:PySem.W.Frag} {H:Hp} {N:List Str} {v:V} (d:Dr K H N v) (g:GD) (h:g ∈ fours v ++ sixes v):PG K H g/\(nameV g.nm=false \/ ∃ z,g.nm=.str z/\GN N z):=by
 obtain ⟨T,p⟩:=d.pt
 simp only [fours,sixes,List.cons_append,List.nil_append,List.mem_cons,List.not_mem_nil,or_false] at h
 rcases h with rfl | rfl | rfl | rfl | rfl | rfl | rfl | rfl | rfl | rfl
 ·exact ⟨⟨⟨T,p⟩,d.sz,_,.non⟩,d.nm⟩
 ·exact ⟨⟨⟨T,p⟩,d.sz,_,.non⟩,d.nm⟩
 ·exact ⟨⟨⟨T,p⟩,d.sz,_,.non⟩,d.nm⟩
 ·exact ⟨⟨⟨T,p⟩,d.sz,_,.non⟩,d.nm⟩
 ·exact ⟨⟨⟨T,p⟩,d.sz,_,.bl _⟩,d.nm⟩
 ·exact ⟨⟨⟨T,p⟩,d.sz,_,.bl _⟩,d.nm⟩
 ·exact ⟨⟨⟨T,p⟩,d.sz,_,.int _⟩,d.nm⟩
 ·exact ⟨⟨⟨T,p⟩,d.sz,_,.int _⟩,d.nm⟩
 ·exact ⟨⟨⟨T,p⟩,d.sz,_,.non⟩,d.nm⟩
 ·exact ⟨⟨⟨T,p⟩,d.sz,_,.str _⟩,d.nm⟩
def NN (as hs:List Str):List Str:=as ++ hs ++ ([("zebra" : Str),"z","zz"]:List Str)
def spDoors (K:PySem.W.Frag):Sp:=fun vs H Q _=>∃ (p la lh:Addr) (as hs:List Str),vs=[.ref p,.ref la,.ref lh]/\Src H p/\H la=some (.lst (as.map V.str))/\H lh=some (.lst (hs.map V.str))/\(∀ z ∈ as,GoodN z)/\(∀ z ∈ hs,GoodN z)/\as ≠ []/\as.length <= 11/\hs.length <= 11 /\
 ∀ (r:Addr) (gs:List GD) (H':Hp),Rows H' r (gs.map gdV)->(∀ g ∈ gs,PG K H' g/\(nameV g.nm=false \/ ∃ z,g.nm=.str z/\GN (NN as hs) z))->H r=none->Keep [p] H H'->Q (.ref r) H'
theorem okDoors (G:FunG K mg "_law_doors" sDoo ["_law_source","_law_askers","_law_houses"]) (CO:Cal P w K mg base CX0 3 "_law_odd" ["_law_source","_law_name"] (spOdd K)) (b_sorted:Blt mg "sorted") (b_set:Blt mg "set") (b_range:Blt mg "range"):Cal P w K mg base CX0 4 "_law_doors" ["_law_source","_law_askers","_law_houses"] (spDoors K):=by
 refine G.ok scDoo (fun vs H Q E h=>by obtain ⟨p,la,lh,as,hs,rfl,_⟩:=h;rfl) (fun f cdv A outer s0 H vs Q E hr h=>?_)
 obtain ⟨p,la,lh,as,hs,rfl,hsrc,hla,hlh,gas,ghs,hne,las,lhs,q⟩:=h
 have hr3:Room 3 _:=hr
 refine ⟨_,(pss_cons (ps_set (i:=3) scDoo.nd rfl (Or.inr rfl) (pe_blt (call_sortedX rfl) b_sorted bo_sorted (pa_cons (pe_callTy (call_setX rfl) rfl b_set.no bo_set (pa_cons (pe_op op_cat (pv 1) (pv 2)) pa_nil)) pa_nil)))
   (pss_cons (ps_set (i:=4) scDoo.nd rfl (Or.inl rfl) (pe_op op_cat (pe_lc1 (N:=["_law_source","_law_askers","_law_houses","_law_names_here","_law_odd_here","_law_strange","_law_backs","_law_deeds","_law_name"]) (sc:=defScope sDoo) (ix:=[0,3]) (by decide +kernel) (pi_range1 rfl b_range.no (pa_cons pe_int pa_nil)) (fun _ _ _ _=>pts_nil) (fun _ _ _ _=>(pe_cal CO hr3 (pa_cons (pv 1) (pa_cons (pe_ix ix_lstH (pv 2) pe_int (fun _ _=>rfl)) pa_nil))))) (pe_lst (pa_cons pe_non (pa_cons pe_str (pa_cons pe_int (pa_cons pe_str pa_nil)))))))
   (pss_cons (ps_setLC1 (i:=5) scDoo.nd rfl (Or.inl rfl) (N:=["_law_source","_law_askers","_law_houses","_law_names_here","_law_odd_here","_law_strange","_law_backs","_law_deeds","_law_name"]) (sc:=defScope sDoo) (ix:=[3]) (by decide +kernel) (pi_list (pe_lst (pa_cons pe_str (pa_cons pe_str (pa_cons pe_str pa_nil))))) (fun _ _ _ _=>(pts_one (pt_cmpR op_notIn_H (pv 0) (pv 1) (by with_unfolding_all rfl)))) (fun _ _ _ _=>(pv 0)))
   (pss_cons (ps_set (i:=6) scDoo.nd rfl (Or.inl rfl) (pe_lst (pa_cons pe_bl (pa_cons pe_bl (pa_cons pe_int (pa_cons pe_int (pa_cons pe_non (pa_cons pe_str pa_nil))))))))
   (pss_cons (ps_set (i:=7) scDoo.nd rfl (Or.inl rfl) (pe_lst pa_nil))
   (pss_cons (ps_for PassesOwn.never rfl (pi_list (pe_op op_cat (pe_op op_cat (pv 3) (pv 5)) (pv 4))) (pg_name (i:=8) scDoo.nd rfl (Or.inr rfl)) (pss_cons (ps_set (i:=7) scDoo.nd rfl (Or.inl rfl) (pe_op op_cat (pv 7) (pe_lc1 (N:=["_law_source","_law_askers","_law_houses","_law_names_here","_law_odd_here","_law_strange","_law_backs","_law_deeds","_law_name"]) (sc:=defScope sDoo) (ix:=[8]) (by decide +kernel) (pi_list (pe_lst (pa_cons pe_str (pa_cons pe_str (pa_cons pe_str (pa_cons pe_str pa_nil)))))) (fun _ _ _ _=>pts_nil) (fun _ _ _ _=>(pe_tup (pa_cons (pv 0) (pa_cons (pv 1) pa_nil)))))))
   (pss_one (ps_set (i:=7) scDoo.nd rfl (Or.inl rfl) (pe_op op_cat (pv 7) (pe_lc1 (N:=["_law_source","_law_askers","_law_houses","_law_names_here","_law_odd_here","_law_strange","_law_backs","_law_deeds","_law_name"]) (sc:=defScope sDoo) (ix:=[8]) (by decide +kernel) (pi_list (pv 6)) (fun _ _ _ _=>pts_nil) (fun _ _ _ _=>(pe_tup (pa_cons pe_str (pa_cons (pv 1) (pa_cons (pv 0) pa_nil)))))))))))
   (pss_one (ps_ret (pv 7))))))))),?_⟩
 refine ⟨_,rfl,_,rfl,la,lh,_,_,rfl,rfl,hla,hlh,by rw [List.length_map,List.length_map,sizeLine_eq];omega,fun l0 hl0=>?_⟩
 rw [<- List.map_append]
 refine ⟨l0,as ++ hs,rfl,upd_same,by rw [List.length_append];omega,fun l1 hl1=>?_⟩
 refine ⟨l1,as ++ hs,rfl,upd_same,by rw [List.length_append];omega,fun nl ys hnl hy ly asc=>?_⟩
 generalize hS0:upd (upd H l0 _) l1 _=HS at hnl ⊢
 have kS:Keep [] H HS:=by rw [<- hS0];exact (Keep.new hl0).trans (Keep.new hl1)
 have k1:Keep [] H (upd HS nl (.lst (ys.map V.str))):=kS.trans (Keep.new hnl)
 have enl:upd HS nl (.lst (ys.map V.str)) nl=some (.lst (ys.map V.str)):=upd_same
 have hnl0:H nl=none:=kS.none (by simp) hnl
 generalize upd HS nl (.lst (ys.map V.str))=H1 at k1 enl ⊢
 have gN:∀ z ∈ as ++ hs,GN (NN as hs) z:=fun z hz=>⟨List.mem_append_left _ hz,(List.mem_append.mp hz).elim (gas z) (ghs z)⟩
 have lys:ys.length <= 22:=by
  have h1:ys.length <= (as ++ hs).length:=Nat.le_trans (Nat.le_of_eq ly) (metS_le _ _)
  rw [List.length_append] at h1
  omega
 obtain ⟨z0,ey0,gz0⟩:∃ z0,atI (ys.map V.str) 0=some (V.str z0)/\GoodN z0:=by
  cases e:ys with
  | nil=>
   obtain ⟨z,t,rfl⟩:∃ z t,as=z :: t:=by
    cases as with
    | nil=>exact absurd rfl hne
    | cons z t=>exact ⟨z,t,rfl⟩
   have:=(hy z).mpr (by simp)
   rw [e] at this;cases this
  | cons z t=>exact ⟨z,at0 _ _,(gN z ((hy z).mp (by rw [e];simp))).2⟩
 have nlp:nl ≠ p:=by
  obtain ⟨a,b,c,h⟩:=hsrc
  exact Ne.symm (ne_of_none h hnl0)
 obtain ⟨a1,b1,c1,hp1⟩:Src H1 p:=by
  obtain ⟨a,b,c,h⟩:=hsrc
  exact ⟨a,b,c,k1 _ _ (by simp) h⟩
 refine ⟨4,rfl,by decide,by decide,fun acc ha=>?_⟩
 have ap:acc ≠ p:=Ne.symm (ne_of_none hp1 ha)
 have an:nl ≠ acc:=ne_of_none enl ha
 refine lc_range0 (by rw [sizeLine_eq];decide) (fun i xs τ H2=>∃ (k:Option V),τ=[k,some (.ref p),some (.ref nl)]/\xs.length=i/\(∀ v ∈ xs,Odd K H2 v)/\Keep [acc,p] H1 H2/\Src H2 p/\H2 acc=some (.lst xs)) ?_ ?_ ?_ ?_
 ·exact ⟨_,rfl,rfl,fun v hv=>absurd hv List.not_mem_nil,Keep.at (by simp),⟨a1,b1,c1,by rw [upd_ne (Ne.symm ap)];exact hp1⟩,upd_same⟩
 ·rintro i xs τ H2 ⟨k,rfl,hl,_,_,_,h2⟩
  exact ⟨h2,by omega⟩
 ·rintro i xs τ H2 hi ⟨k,rfl,hl,ho,kp,⟨a2,b2,c2,hp2⟩,h2⟩
  refine ⟨_,rfl,_,rfl,nl,_,0,_,rfl,rfl,kp _ _ (by simp [an,nlp]) enl,ey0,p,z0,rfl,⟨a2,b2,c2,hp2⟩,gz0,fun x H3 ox k3 hz56=>?_⟩
  obtain ⟨a3,b3,c3,hp3⟩:=hz56
  have h3:=k3 _ _ (by simp [ap]) h2
  have ka:Keep [acc,p] H2 (upd H3 acc (.lst (xs ++ [x]))):=(k3.mono (by simp)).trans (Keep.at (by simp))
  have ep:upd H3 acc (.lst (xs ++ [x])) p=some (.lst [.int a3,.int b3,.int c3]):=by rw [upd_ne (Ne.symm ap)];exact hp3
  refine ⟨h3,_,rfl,by rw [List.length_append,hl];rfl,fun v hv=>?_,kp.trans ka,⟨a3,b3,c3,ep⟩,upd_same⟩
  rcases List.mem_append.mp hv with hv | hv
  ·refine (ho v hv).lists ka fun b hb=>.inr ?_
   simp only [List.mem_cons,List.not_mem_nil,or_false] at hb
   rcases hb with rfl | rfl
   ·exact ⟨⟨_,h2⟩,_,upd_same⟩
   ·exact ⟨⟨_,hp2⟩,_,ep⟩
  ·rw [List.mem_singleton.mp hv]
   exact ox.lists (S:=[acc]) (Keep.at (by simp)) fun b hb=>.inr (by rw [List.mem_singleton.mp hb];exact ⟨⟨_,h3⟩,_,upd_same⟩)
 rintro xs τ H2 ⟨k,rfl,lxs,ho,kp,⟨a2,b2,c2,hp2⟩,h2⟩
 have k12:Keep [p] H1 H2:=kp.drop ha
 refine ⟨by show 4 <= sizeLine;decide,fun l4 hl4=>?_⟩
 refine ⟨acc,l4,_,_,rfl,rfl,(Keep.new (S:=[]) hl4) _ _ (by simp) h2,upd_same,by rw [lxs,sizeLine_eq];decide,fun ol hol=>?_⟩
 have k23:Keep [] H2 (upd (upd H2 l4 (.lst [V.non,.str "",.int 0,.str "Gate"])) ol (.lst (xs ++ [V.non,.str "",.int 0,.str "Gate"]))):=(Keep.new hl4).trans (Keep.new hol)
 have eol:upd (upd H2 l4 (.lst [V.non,.str "",.int 0,.str "Gate"])) ol (.lst (xs ++ [V.non,.str "",.int 0,.str "Gate"])) ol=some (.lst (xs ++ [V.non,.str "",.int 0,.str "Gate"])):=upd_same
 generalize upd (upd H2 l4 (.lst [V.non,.str "",.int 0,.str "Gate"])) ol (.lst (xs ++ [V.non,.str "",.int 0,.str "Gate"]))=H3 at k23 eol ⊢
 have od:∀ v ∈ xs ++ [V.non,.str "",.int 0,.str "Gate"],Dr K H3 (NN as hs) v:=by
  intro v hv
  rcases List.mem_append.mp hv with hv | hv
  ·exact (ho v hv).dr.keep k23
  ·simp only [List.mem_cons,List.not_mem_nil,or_false] at hv
   rcases hv with rfl | rfl | rfl | rfl
   ·exact ⟨⟨_,.non⟩,nofun,.inl rfl⟩
   ·exact (Odd.str (by decide +kernel) (by decide +kernel)).dr
   ·exact ⟨⟨_,.int 0⟩,nofun,.inl rfl⟩
   ·exact (Odd.str (by decide +kernel) (by decide +kernel)).dr
 have enl3:=k23 _ _ (by simp) (k12 _ _ (by simp [nlp]) enl)
 refine ⟨by show 3 <= sizeLine;decide,fun l5 hl5=>⟨l5,rfl,⟨_,.of upd_same⟩,fun sl hsl=>lc_filt (zs:=[("zebra" : Str),"z","zz"]) (rest:=[some (.ref nl)]) (fun z=>!inV (.str z) (ys.map V.str)) (by decide) hsl upd_same rfl ?_ (fun z H R h=>⟨_,rfl,h⟩) ?_⟩⟩
 ·intro z H4 R k4 hR
  have e4:=k4 _ _ (by simp [ne_of_none ((Keep.new (S:=[]) hl5) _ _ (by simp) enl3) hsl]) ((Keep.new (S:=[]) hl5) _ _ (by simp) enl3)
  exact ⟨_,rfl,_,rfl,nl,_,rfl,e4,rfl,by simp [flatV],_,rfl,hR⟩
 intro H4 esl k34'
 have k34:Keep [] H3 H4:=(Keep.new hl5).trans k34'
 have lst:([("zebra" : Str),"z","zz"].filter fun z=>!inV (.str z) (ys.map V.str)).length <= 3:=List.length_filter_le _ _
 have gst:∀ z ∈ [("zebra" : Str),"z","zz"].filter (fun z=>!inV (.str z) (ys.map V.str)),GN (NN as hs) z:=by
  intro z hz
  have hz:=(List.mem_filter.mp hz).1
  refine ⟨List.mem_append_right _ hz,?_⟩
  simp only [List.mem_cons,List.not_mem_nil,or_false] at hz
  rcases hz with rfl | rfl | rfl <;> exact ⟨by decide +kernel,by decide +kernel⟩
 generalize [("zebra" : Str),"z","zz"].filter (fun z=>!inV (.str z) (ys.map V.str))=ss at esl lst gst
 refine ⟨by show 6 <= sizeLine;decide,fun bl hbl=>?_⟩
 refine ⟨by show 0 <= sizeLine;decide,fun dl hdl=>?_⟩
 have k45:Keep [] H4 (upd (upd H4 bl (.lst [.bl true,.bl false,.int 1,.int 0,.non,.str "back"])) dl (.lst [])):=(Keep.new hbl).trans (Keep.new hdl)
 have ebl:upd (upd H4 bl (.lst [.bl true,.bl false,.int 1,.int 0,.non,.str "back"])) dl (.lst []) bl=some (.lst [.bl true,.bl false,.int 1,.int 0,.non,.str "back"]):=(Keep.new (S:=[]) hdl) _ _ (by simp) upd_same
 have edl:upd (upd H4 bl (.lst [.bl true,.bl false,.int 1,.int 0,.non,.str "back"])) dl (.lst []) dl=some (.lst []):=upd_same
 generalize upd (upd H4 bl (.lst [.bl true,.bl false,.int 1,.int 0,.non,.str "back"])) dl (.lst [])=H5 at k45 ebl edl ⊢
 have k35:=k34.trans k45
 refine ⟨_,rfl,_,rfl,nl,sl,_,_,rfl,rfl,k35 _ _ (by simp) enl3,k45 _ _ (by simp) esl,by rw [List.length_map,List.length_map,sizeLine_eq];omega,fun c1' hc1=>⟨_,rfl,c1',ol,_,_,rfl,rfl,upd_same,(Keep.new (S:=[]) hc1) _ _ (by simp) (k35 _ _ (by simp) eol),by rw [List.length_append,List.length_append,List.length_map,List.length_map,lxs,sizeLine_eq];show _ + _ + (4 + 4) <= _;omega,fun c2' hc2=>?_⟩⟩
 have k56:Keep [] H5 (upd (upd H5 c1' (.lst (ys.map V.str ++ ss.map V.str))) c2' (.lst (ys.map V.str ++ ss.map V.str ++ (xs ++ [V.non,.str "",.int 0,.str "Gate"])))):=(Keep.new hc1).trans (Keep.new hc2)
 have ec2:upd (upd H5 c1' (.lst (ys.map V.str ++ ss.map V.str))) c2' (.lst (ys.map V.str ++ ss.map V.str ++ (xs ++ [V.non,.str "",.int 0,.str "Gate"]))) c2'=some (.lst (ys.map V.str ++ ss.map V.str ++ (xs ++ [V.non,.str "",.int 0,.str "Gate"]))):=upd_same
 generalize upd (upd H5 c1' (.lst (ys.map V.str ++ ss.map V.str))) c2' (.lst (ys.map V.str ++ ss.map V.str ++ (xs ++ [V.non,.str "",.int 0,.str "Gate"])))=H6 at k56 ec2 ⊢
 have dr:∀ v ∈ ys.map V.str ++ ss.map V.str ++ (xs ++ [V.non,.str "",.int 0,.str "Gate"]),Dr K H6 (NN as hs) v:=by
  intro v hv
  rcases List.mem_append.mp hv with hv | hv
  ·rcases List.mem_append.mp hv with hv | hv
   ·obtain ⟨z,hz,rfl⟩:=List.mem_map.mp hv
    exact .name (gN z ((hy z).mp hz))
   ·obtain ⟨z,hz,rfl⟩:=List.mem_map.mp hv
    exact .name (gst z hz)
  ·exact (od v hv).keep (k35.trans k56)
 have lall:(ys.map V.str ++ ss.map V.str ++ (xs ++ [V.non,.str "",.int 0,.str "Gate"])).length <= 33:=by
  rw [List.length_append,List.length_append,List.length_append,List.length_map,List.length_map,lxs]
  show _ + _ + (4 + 4) <= _
  omega
 generalize ys.map V.str ++ ss.map V.str ++ (xs ++ [V.non,.str "",.int 0,.str "Gate"])=all at ec2 dr lall
 have k06:Keep [p] H H6:=((k1.mono (by simp)).trans k12).trans (((k23.trans k35).trans k56).mono (by simp))
 have ebl6:=k56 _ _ (by simp) ebl
 have hp6:=((k23.trans k35).trans k56) _ _ (by simp) hp2
 have dlp:dl ≠ p:=Ne.symm (ne_of_none ((Keep.new (S:=[]) hbl) _ _ (by simp) ((k23.trans k34) _ _ (by simp) hp2)) hdl)
 have dl0:H dl=none:=(((k1.mono (by simp)).trans k12).trans ((k23.trans k34).mono (by simp))).none (by simp [dlp]) ((Keep.new (S:=[]) hbl).none (by simp) hdl)
 have edl6:=k56 _ _ (by simp) edl
 refine ⟨c2',rfl,⟨_,.of ec2⟩,for_list (K:=K) (a:=c2') (xs:=all) (fun i σ H'=>∃ (d:Addr) (gs:List GD) (v8:Option V),σ=[some (.ref p),some (.ref la),some (.ref lh),some (.ref nl),some (.ref ol),some (.ref sl),some (.ref bl),some (.ref d),v8]/\Rows H' d (gs.map gdV)/\(∀ g ∈ gs,∃ v ∈ all,g ∈ fours v ++ sixes v)/\gs.length <= 10 * i/\H d=none/\Keep [] H6 H')
  ⟨dl,[],_,rfl,⟨[],edl6,.nil⟩,fun g hg=>absurd hg List.not_mem_nil,Nat.zero_le _,dl0,Keep.refl _⟩ (fun i σ H' _ ⟨_,_,_,_,_,_,_,_,kp⟩=>.of (kp _ _ (by simp) ec2)) ?_ ?_⟩
 ·rintro i v σ H7 hi ⟨d,gs,v8,rfl,⟨ps,ed,pr⟩,hg,lg,hd0,k67⟩
  have hv:v ∈ all:=List.mem_of_getElem? hi
  have hil:i < all.length:=(List.getElem?_eq_some_iff.mp hi).1
  have lps:=paired_len pr
  rw [List.length_map] at lps
  refine ⟨_,rfl,by show 4 <= sizeLine;decide,fun l7 hl7=>⟨l7,rfl,⟨_,.of upd_same⟩,fun e1 he1=>lc_tups (rest:=[some v]) (fun x=>[x,v]) (by show 4 <= 2000;decide) he1 upd_same rfl (fun x H R hR=>⟨_,rfl,_,rfl,by show 2 <= sizeLine;decide,fun t ht=>hR t ht⟩) ?_⟩⟩
  rintro H8 ⟨ps2,e8,pr8⟩ k78'
  have k78:Keep [] H7 H8:=(Keep.new hl7).trans k78'
  have lps2:ps2.length=4:=paired_len pr8
  refine ⟨d,e1,_,_,rfl,rfl,k78 _ _ (by simp) ed,e8,by rw [List.length_map,List.length_map,lps,lps2,sizeLine_eq];omega,fun d2 hd2=>?_⟩
  have k89:Keep [] H8 (upd H8 d2 (.lst (ps.map V.ref ++ ps2.map V.ref))):=Keep.new hd2
  have ed2:upd H8 d2 (.lst (ps.map V.ref ++ ps2.map V.ref)) d2=some (.lst (ps.map V.ref ++ ps2.map V.ref)):=upd_same
  generalize upd H8 d2 (.lst (ps.map V.ref ++ ps2.map V.ref))=H9 at k89 ed2 ⊢
  have k79:=k78.trans k89
  refine ⟨_,rfl,_,rfl,bl,rfl,⟨_,.of ((k67.trans k79) _ _ (by simp) ebl6)⟩,fun e2 he2=>lc_tups (rest:=[some v]) (fun x=>[.str "come",v,x]) (by show 6 <= 2000;decide) he2 ((k67.trans k79) _ _ (by simp) ebl6) rfl (fun x H R hR=>⟨_,rfl,_,rfl,by show 3 <= sizeLine;decide,fun t ht=>hR t ht⟩) ?_⟩
  rintro H10 ⟨ps3,e10,pr10⟩ k910
  have lps3:ps3.length=6:=paired_len pr10
  refine ⟨d2,e2,_,_,rfl,rfl,k910 _ _ (by simp) ed2,e10,by rw [List.length_append,List.length_map,List.length_map,List.length_map,lps,lps2,lps3,sizeLine_eq];omega,fun d3 hd3=>?_⟩
  have ke:Keep [] H10 (upd H10 d3 (.lst (ps.map V.ref ++ ps2.map V.ref ++ ps3.map V.ref))):=Keep.new hd3
  have nt:∀ b ∈ ([]:List Addr),∀ (H:Hp) xs,H b ≠ some (.tup xs):=fun b hb=>absurd hb List.not_mem_nil
  refine ⟨d3,gs ++ (fours v ++ sixes v),_,rfl,⟨ps ++ ps2 ++ ps3,by rw [upd_same,List.map_append,List.map_append],?_⟩,fun g h=>?_,?_,(k06.trans (((k67.trans k79).trans k910).mono (by simp))).none (by simp [Ne.symm (ne_of_none (((k67.trans k79).trans k910) _ _ (by simp) hp6) hd3)]) hd3,((k67.trans k79).trans k910).trans ke⟩
  ·rw [List.map_append,List.map_append,<- List.append_assoc]
   exact paired_app (paired_app (paired_keep ((k79.trans k910).trans ke) (fun b hb=>nt b hb _) pr) (paired_keep ((k89.trans k910).trans ke) (fun b hb=>nt b hb _) pr8)) (paired_keep ke (fun b hb=>nt b hb _) pr10)
  ·rcases List.mem_append.mp h with h | h
   ·exact hg g h
   ·exact ⟨v,hv,h⟩
  ·rw [List.length_append]
   show gs.length + 10 <= _
   omega
 ·rintro σ H7 ⟨d,gs,v8,rfl,R7,hg,lg,hd0,k67⟩
  exact ⟨_,rfl,q d gs H7 R7 (fun g h=>by
   obtain ⟨v,hv,hgv⟩:=hg g h
   exact ((dr v hv).keep k67).four g hgv) hd0 (k06.trans (k67.mono (by simp)))⟩
end
abbrev sLaw:Stmt:=top 43
theorem DAt.keepS {S:List Addr} {H H':Hp} {st rl:Addr} {s:SS} (D:DAt H st rl s) (k:Keep S H H') (hp:st ∉ S) (hw:rl ∉ S) (ht:∀ b ∈ S,∀ xs,H b ≠ some (.tup xs)):DAt H' st rl s:=
 ⟨k _ _ hp D.d,rows_keepS D.rw k hw ht,D.len⟩
theorem next_len (s:SS) (v:Res):(nextS s v).row.length <= s.row.length + 1:=by
 cases v with
 | bad i=>exact Nat.le_succ _
 | told d=>
  refine Nat.le_trans (move_len _) ?_
  rw [deedF_row]
  exact behind_len _ _
theorem ans_alk {s:SS} {v:Res} {H0 H1 H:Hp} {r r':Addr} (h1:Ans s v H0 H r) (h2:Ans s v H1 H r'):Alk H 3 (.ref r) (.ref r'):=by
 cases v with
 | bad i=>
  have e1:H r=some (.tup [.str "refused",.str (wordOf i)]):=h1
  have e2:H r'=some (.tup [.str "refused",.str (wordOf i)]):=h2
  exact .inr ⟨r,r',_,_,rfl,rfl,.inr ⟨e1,e2⟩,.cons (Alk.flat 2 rfl) (.cons (Alk.flat 2 rfl) .nil),by show 2 <= 2000;decide⟩
 | told d=>
  obtain ⟨l1,e1,R1,_⟩:=h1
  obtain ⟨l2,e2,R2,_⟩:=h2
  obtain ⟨d1,d2⟩:=move_due (deedF s d)
  exact .inr ⟨r,r',_,_,rfl,rfl,.inr ⟨e1,e2⟩,.cons (Alk.flat 2 rfl) (.cons (alk_rows R1 R2 d1 d2) .nil),by show 2 <= 2000;decide⟩
theorem ans_keepS {s:SS} {v:Res} {H0 H H':Hp} {r:Addr} {S:List Addr} (h:Ans s v H0 H r) (k:Keep S H H') (hS:∀ b ∈ S,H0 b ≠ none) (ht:∀ b ∈ S,∀ xs,H b ≠ some (.tup xs)):Ans s v H0 H' r:=by
 cases v with
 | bad i=>
  have e1:H r=some (.tup [.str "refused",.str (wordOf i)]):=h
  exact k _ _ (fun hb=>ht r hb _ e1) e1
 | told d=>
  obtain ⟨l1,e1,R1,hn⟩:=h
  exact ⟨l1,k _ _ (fun hb=>ht r hb _ e1) e1,rows_keepS R1 k (fun hb=>hS l1 hb hn) ht,hn⟩
section
variable {P:Program} {w:World} {K:PySem.W.Frag} {mg:Str->Option Value} {base:Heap} {C:Addr}
theorem scLaw:FnScope ["_law_script","_law_askers","_law_houses","_law_way","_law_arrow","_law_seat","_law_state_here","_law_cell","_law_now","_law_deeds","_law_deed","_law_kept","_law_due","_law_turn"] ["_law_script"] (defScope sLaw):=⟨rfl,rfl,rfl,by decide +kernel,rfl,by decide +kernel,by decide +kernel⟩
theorem cal_calm {k:Nat} {x:Str} {ps:List Str} {sp:Sp} (D:Cal P w K mg base (CXE P w) k x ps sp):Cal P w K mg base CX0 k x ps (fun vs H Q _=>sp vs H Q E0):=by
 obtain ⟨f,fd,F,h1,h2,h3⟩:=D.ex
 refine ⟨f,fd,⟨fun vs H Q E h=>F.len vs H Q E0 h,fun A outer s H args us vs Q E hr he hb hv h=>codeAny_mono (F.run A outer s H args us vs Q E0 hr he hb hv h) fun r s' q=>?_⟩,h1,h2,h3⟩
 cases r with
 | ok fl=>
  cases fl with
  | ret u=>exact q
  | _=>exact q
 | error e=>
  obtain ⟨_,_,_,_,_,_,_,_,_,_,_,_,_,z⟩:=q
  exact z.elim
theorem PG.keepS {H H':Hp} {p wl:Addr} {s s':SS} {g:GD} (S:SeatAt C H p wl s) (S':SeatAt C H' p wl s') (k:Keep [p,wl] H H') (pg:PG K H g):PG K H' g:=by
 obtain ⟨dx,hob⟩:=S.ob
 obtain ⟨ps,hw,_⟩:=S.rw
 obtain ⟨ps',hw',_⟩:=S'.rw
 have one:∀ {x:V} {T:String},PlainT K H x T->PlainT K H' x T:=fun {x T} h=>by
  cases h with
  | non=>exact .non
  | bl b=>exact .bl b
  | int i=>exact .int i
  | str z=>exact .str z
  | @lst a xs e=>
   by_cases h1:a=wl
   ·subst h1;exact .lst hw'
   ·refine .lst (k _ _ ?_ e)
    simp only [List.mem_cons,List.not_mem_nil,or_false]
    rintro (rfl | h)
    ·rw [hob] at e;cases e
    ·exact h1 h
  | @tup a xs e=>exact .tup (k _ _ (fun hb=>no_tup hob hw a hb xs e) e)
  | @dK a kvs e=>
   refine .dK (k _ _ ?_ e)
   simp only [List.mem_cons,List.not_mem_nil,or_false]
   rintro (rfl | rfl)
   ·rw [hob] at e;cases e
   ·rw [hw] at e;cases e
 obtain ⟨T,h1⟩:=pg.pn
 obtain ⟨T2,h2⟩:=pg.pb
 exact ⟨⟨T,one h1⟩,pg.sz,⟨T2,one h2⟩⟩
theorem cut_takeR (l:List Addr) {k:Int} (hk:0 <= k):cutV (l.map V.ref) none (some k)=(l.take k.toNat).map V.ref:=by
 unfold cutV
 obtain ⟨n,rfl⟩:=Int.eq_ofNat_of_zero_le hk
 rw [HT.sIx_none,HT.sIx_nat,List.drop_zero,List.length_map,Nat.sub_zero,<- List.map_take]
 congr 1
 rcases Nat.le_total n l.length with h | h
 ·rw [Nat.min_eq_left h];rfl
 ·rw [Nat.min_eq_right h,List.take_of_length_le (Nat.le_refl _)];exact (List.take_of_length_le h).symm
theorem pg_deed {H:Hp} {N:List Str} {dd:DD} (gn:GN N dd.nm):PG K H (gdOf dd):=by
 refine ⟨?_,?_,?_⟩
 ·rw [gd_nm];exact ⟨_,.str _⟩
 ·rw [gd_nm];intro z e;cases e;have:=gn.2.2;omega
 ·cases dd <;> first | exact ⟨_,.non⟩ | exact ⟨_,.bl _⟩
def spLaw (K:PySem.W.Frag):Sp:=fun vs H Q _=>∃ (a:Addr) (ns:List Int),vs=[.ref a]/\SqL K H a (ns.map V.int)/\ns.length <= 63/\∀ H',Q (.bl true) H'
theorem okLaw {f:Addr} {fd:FuncData} {cs:Nat->Addr} (T:SeatT K C) (G:Fun K "law" "law" sLaw f fd) (CC:Cal P w K mg base CX0 1 "_law_cell_at" ["_law_script","_law_k"] (spCell K)) (CD:Cal P w K mg base CX0 1 "_law_digits" ["_law_cell"] spDigits) (CN:Cal P w K mg base CX0 2 "_law_next" ["_law_source","_law_many"] spNext)
  (CPo:Cal P w K mg base CX0 4 "_law_pools" ["_law_cell"] spPools) (CS:Cal P w K mg base CX0 1 "_law_state" ["_law_arrow"] spState) (CG:Cal P w K mg base CX0 1 "_law_good_deeds" ["_law_told_here","_law_askers","_law_houses"] spGood) (CDo:Cal P w K mg base CX0 4 "_law_doors" ["_law_source","_law_askers","_law_houses"] (spDoors K))
  (CW:Cal P w K mg base CX0 2 "_law_why" ["_law_state_here","_law_deed"] (spWhy K)) (CMa:Cal P w K mg base CX0 2 "_law_made" ["_law_state_here","_law_deed"] spMade) (CP:Cal P w K mg base (CXE P w) 4 "_law_put" ["_law_seat","_law_deed"] (spPutX K C cs)) (CAs:Cal P w K mg base CX0 5 "_law_asked" ["_law_seat","_law_deed"] (spAsked K C)) (CA:Cal P w K mg base CX0 4 "_law_alike" ["_law_found","_law_due"] (spAl 4)) (CT:Cal P w K mg base CX0 2 "_law_told" ["_law_seat"] (spTold C))
  (MK:MkCal P w K mg base CX0 2 C "Seat" ["self","arrow"] (spInit C)) (b_len:Blt mg "len") (b_list:Blt mg "list") (b_range:Blt mg "range"):FnOk P w K mg base CX0 6 f fd ["_law_script"] (spLaw K):=by
 have CPc:=cal_calm CP
 refine G.ok scLaw (fun vs H Q E h=>by obtain ⟨a,ns,rfl,_⟩:=h;rfl) (fun cdv A outer s H vs Q E hr h=>?_)
 obtain ⟨a,ns,rfl,hS,hlen,k⟩:=h
 have hr1:Room 1 _:=hr.mono (by decide)
 have hr2:Room 2 _:=hr.mono (by decide)
 have hr3:Room 3 _:=hr.mono (by decide)
 have hr4:Room 4 _:=hr.mono (by decide)
 have hr5:Room 5 _:=hr
 have hu:=hu_of hr
 refine ⟨_,(pss_cons (ps_asg (pe_cal CPo hr4 (pa_cons (pe_cal CC hr1 (pa_cons (pv 0) (pa_cons pe_int pa_nil))) pa_nil)) (pg_tup rfl (pgs_cons (pg_name (i:=1) scLaw.nd rfl (Or.inl rfl)) (pgs_cons (pg_name (i:=2) scLaw.nd rfl (Or.inl rfl)) (pgs_cons (pg_name (i:=3) scLaw.nd rfl (Or.inl rfl)) pgs_nil)))))
   (pss_cons (ps_set (i:=4) scLaw.nd rfl (Or.inl rfl) (pe_ix ix_lstH (pe_lst (pa_cons pe_non (pa_cons (pe_ix ix_lstH (pv 2) pe_int (fun _ _=>rfl)) (pa_cons (pe_ix ix_lstH (pv 2) (pe_un un_neg pe_int) (fun _ _=>rfl)) pa_nil)))) (pv 3) (fun _ _=>rfl)))
   (pss_cons (ps_set (i:=5) scLaw.nd rfl (Or.inl rfl) (pe_mk MK hr3 (pa_cons (pv 4) pa_nil)))
   (pss_cons (ps_set (i:=6) scLaw.nd rfl (Or.inl rfl) (pe_cal CS hr1 (pa_cons (pv 4) pa_nil)))
   (pss_cons (ps_for PassesOwn.never rfl (pi_list (pe_slice sl_list (pv 0) (po_some pe_int) (po_some pe_int))) (pg_name (i:=7) scLaw.nd rfl (Or.inl rfl)) (pss_cons (ps_set (i:=8) scLaw.nd rfl (Or.inl rfl) (pe_lst (pa_cons (pe_dget hu (pv 6) pe_str (fun _ _=>rfl)) (pa_cons (pe_callTy call_list_of rfl b_list.no bo_list (pa_cons (pe_dget hu (pv 6) pe_str (fun _ _=>rfl)) pa_nil)) (pa_cons (pe_dget hu (pv 6) pe_str (fun _ _=>rfl)) (pa_cons (pe_dget hu (pv 6) pe_str (fun _ _=>rfl)) pa_nil))))))
   (pss_cons (ps_set (i:=9) scLaw.nd rfl (Or.inl rfl) (pe_cal CG hr1 (pa_cons (pv 8) (pa_cons (pv 1) (pa_cons (pv 2) pa_nil)))))
   (pss_cons (ps_set (i:=10) scLaw.nd rfl (Or.inl rfl) (pe_ix ix_lstH (pv 9) (pe_cal CN hr2 (pa_cons (pe_cal CD hr1 (pa_cons (pv 7) pa_nil)) (pa_cons (pe_blt call_len b_len bo_len (pa_cons (pv 9) pa_nil)) pa_nil))) (fun _ _=>rfl)))
   (pss_cons (ps_expr (pe_cal CMa hr2 (pa_cons (pv 6) (pa_cons (pv 10) pa_nil))))
   (pss_one (ps_expr (pe_cal CPc hr4 (pa_cons (pv 5) (pa_cons (pv 10) pa_nil))))))))))
   (pss_cons (ps_set (i:=11) scLaw.nd rfl (Or.inl rfl) (pe_lst (pa_cons (pe_dget hu (pv 6) pe_str (fun _ _=>rfl)) (pa_cons (pe_callTy call_list_of rfl b_list.no bo_list (pa_cons (pe_dget hu (pv 6) pe_str (fun _ _=>rfl)) pa_nil)) (pa_cons (pe_dget hu (pv 6) pe_str (fun _ _=>rfl)) (pa_cons (pe_dget hu (pv 6) pe_str (fun _ _=>rfl)) pa_nil))))))
   (pss_cons (ps_for PassesOwn.never rfl (pi_list (pe_cal CDo hr4 (pa_cons (pe_cal CD hr1 (pa_cons (pe_cal CC hr1 (pa_cons (pv 0) (pa_cons pe_int pa_nil))) pa_nil)) (pa_cons (pv 1) (pa_cons (pv 2) pa_nil))))) (pg_name (i:=10) scLaw.nd rfl (Or.inl rfl)) (pss_cons (ps_set (i:=12) scLaw.nd rfl (Or.inl rfl) (pe_cal CW hr2 (pa_cons (pv 6) (pa_cons (pv 10) pa_nil))))
   (pss_one (ps_if (pt_cmpR op_notN (pv 12) pe_non (nomark _)) (pss_one (ps_for PassesOwn.never rfl (pi_range1 rfl b_range.no (pa_cons pe_int pa_nil)) (pg_name (i:=13) scLaw.nd rfl (Or.inl rfl)) (pss_one (ps_if (pt_cmpR (op_neT (Nat.lt_of_succ_lt hu)) (pe_cal CAs hr5 (pa_cons (pv 5) (pa_cons (pv 10) pa_nil))) (pe_tup (pa_cons pe_str (pa_cons (pv 12) pa_nil))) (nomark _)) (pss_one (ps_ret pe_bl)) pss_nil)))) pss_nil))))
   (pss_cons (ps_if (pt_not (pt_val (pe_cal CA hr4 (pa_cons (pe_cal CT hr2 (pa_cons (pv 5) pa_nil)) (pa_cons (pv 11) pa_nil))))) (pss_one (ps_ret pe_bl)) pss_nil)
   (pss_cons (ps_for PassesOwn.never rfl (pi_list (pe_slice sl_list (pe_cal CG hr1 (pa_cons (pv 11) (pa_cons (pv 1) (pa_cons (pv 2) pa_nil)))) po_none (po_some pe_int))) (pg_name (i:=10) scLaw.nd rfl (Or.inl rfl)) (pss_one (ps_if (pt_not (pt_val (pe_cal CA hr4 (pa_cons (pe_cal CAs hr5 (pa_cons (pv 5) (pa_cons (pv 10) pa_nil))) (pa_cons (pe_tup (pa_cons pe_str (pa_cons (pe_cal CMa hr2 (pa_cons (pv 6) (pa_cons (pv 10) pa_nil))) pa_nil))) pa_nil))))) (pss_one (ps_ret pe_bl)) pss_nil)))
   (pss_one (ps_ret (pe_cal CA hr4 (pa_cons (pe_cal CT hr2 (pa_cons (pv 5) pa_nil)) (pa_cons (pe_lst (pa_cons (pe_dget hu (pv 6) pe_str (fun _ _=>rfl)) (pa_cons (pe_dget hu (pv 6) pe_str (fun _ _=>rfl)) (pa_cons (pe_dget hu (pv 6) pe_str (fun _ _=>rfl)) (pa_cons (pe_dget hu (pv 6) pe_str (fun _ _=>rfl)) pa_nil))))) pa_nil)))))))))))))),?_⟩
 refine ⟨_,rfl,a,ns,0,rfl,hS,by decide,fun v0=>⟨_,rfl,fun r la lh as hs v H1 hr' hla hlh gas ghs hne hnea las lhs vv0 vv1 k1=>?_⟩⟩
 refine ⟨r,_,rfl,.of hr',rfl,_,_,rfl,_,_,rfl,_,_,rfl,rfl,?_⟩
 have gas':∀ z ∈ as,GN (NN as hs) z:=fun z hz=>⟨List.mem_append_left _ (List.mem_append_left _ hz),gas z hz⟩
 have ghs':∀ z ∈ hs,GN (NN as hs) z:=fun z hz=>⟨List.mem_append_left _ (List.mem_append_right _ hz),ghs z hz⟩
 generalize hN:NN as hs=N at gas' ghs'
 obtain ⟨z0,ht0,e0⟩:∃ z0 ht0,hs=z0 :: ht0:=by
  cases hs with
  | nil=>exact absurd rfl hne
  | cons z t=>exact ⟨z,t,rfl⟩
 have el:hs.map V.str=hs.dropLast.map V.str ++ [V.str (hs.getLast hne)]:=by
  have:=congrArg (List.map V.str) (List.dropLast_concat_getLast hne)
  rw [List.map_append] at this
  exact this.symm
 have hl:=atI_last (hs.dropLast.map V.str) (V.str (hs.getLast hne))
 rw [<- el] at hl
 have h0:atI (hs.map V.str) 0=some (V.str z0):=by rw [e0];exact at0 _ _
 have gl:=ghs' _ (List.getLast_mem hne)
 have g0:=ghs' z0 (by rw [e0];simp)
 generalize hs.getLast hne=zl at hl gl
 obtain ⟨ar,hu1,hu2⟩:∃ ar,atI [V.non,.str z0,.str zl] v=some (optV ar)/\∀ z,ar=some z->GN N z:=by
  have hv:v=0 \/ v=1 \/ v=2:=by omega
  rcases hv with rfl | rfl | rfl
  ·exact ⟨none,at0 _ _,fun z e=>by cases e⟩
  ·exact ⟨some z0,at1 _ _ _,fun z e=>by cases e;exact g0⟩
  ·exact ⟨some zl,at2 _ _ _ _,fun z e=>by cases e;exact gl⟩
 refine ⟨_,rfl,lh,_,0,_,rfl,rfl,hlh,h0,_,rfl,_,rfl,lh,_,-1,_,rfl,rfl,hlh,hl,by show 3 <= sizeLine;decide,fun ll hll=>⟨_,rfl,ll,_,v,_,rfl,rfl,upd_same,hu1,?_⟩⟩
 have k2:Keep [] H1 (upd H1 ll (.lst [.non,.str z0,.str zl])):=Keep.new hll
 generalize upd H1 ll (.lst [.non,.str z0,.str zl])=H2 at k2 ⊢
 refine ⟨_,rfl,fun x dx hx hdx ndx=>⟨x,dx,ar,rfl,upd_same,(fun z e=>⟨(hu2 z e).2.1,by have:=(hu2 z e).2.2;omega⟩),fun wl H3 hwl S3 k3=>⟨rfl,?_⟩⟩⟩
 have k23:Keep [] H2 H3:=((Keep.new hdx).trans (Keep.new (by rw [upd_ne (Ne.symm ndx)];exact hx))).under k3 (by intro b hb;rw [List.mem_singleton.mp hb];exact hx)
 have hwl2:H2 wl=none:=(upd_none (upd_none hwl).1).1
 have hla2:=k2 _ _ (by simp) hla
 have hlh2:=k2 _ _ (by simp) hlh
 have lax:la ≠ x:=ne_of_none hla2 hx
 have lhx:lh ≠ x:=ne_of_none hlh2 hx
 have law':la ≠ wl:=ne_of_none hla2 hwl2
 have lhw:lh ≠ wl:=ne_of_none hlh2 hwl2
 refine ⟨_,rfl,ar,rfl,fun st rl H4 hst hrl D4 k34=>?_⟩
 have hla3:=k23 _ _ (by simp) hla2
 have hlh3:=k23 _ _ (by simp) hlh2
 have S4:=S3.keep k34
 have stx:∀ u,H3 u=none->u ∉ [x,wl]:=fun u hu'=>S3.fresh hu'
 have last:la ≠ st:=ne_of_none hla3 hst
 have larl:la ≠ rl:=ne_of_none hla3 hrl
 have lhst:lh ≠ st:=ne_of_none hlh3 hst
 have lhrl:lh ≠ rl:=ne_of_none hlh3 hrl
 have sx:=stx st hst
 have rx:=stx rl hrl
 have xs:x ∉ [st,rl]:=by
  simp only [List.mem_cons,List.not_mem_nil,or_false,not_or] at sx rx ⊢
  exact ⟨Ne.symm sx.1,Ne.symm rx.1⟩
 have ws:wl ∉ [st,rl]:=by
  simp only [List.mem_cons,List.not_mem_nil,or_false,not_or] at sx rx ⊢
  exact ⟨Ne.symm sx.2,Ne.symm rx.2⟩
 have k04:=((k1.trans k2).trans k23).trans k34
 have fr:∀ b ∈ [x,wl,st,rl],H b=none:=by
  intro b hb
  simp only [List.mem_cons,List.not_mem_nil,or_false] at hb
  rcases hb with rfl | rfl | rfl | rfl
  ·exact (k1.trans k2).none (by simp) hx
  ·exact (k1.trans k2).none (by simp) hwl2
  ·exact ((k1.trans k2).trans k23).none (by simp) hst
  ·exact ((k1.trans k2).trans k23).none (by simp) hrl
 refine ⟨_,rfl,_,rfl,_,rfl,a,_,rfl,Keep.seq k04 hS,fun p0 hp0=>?_⟩
 obtain ⟨ms,em,lm⟩:=cut_ints ns (some 2) (some 14)
 rw [em]
 have k45:Keep [] H4 (upd H4 p0 (.lst (ms.map V.int))):=Keep.new hp0
 have S5:=S4.keep k45
 have D5:=D4.keep k45
 have h5p0:upd H4 p0 (.lst (ms.map V.int)) p0=some (.lst (ms.map V.int)):=upd_same
 have x0:=S4.fresh hp0
 have d0:=D4.fresh hp0
 have h5la:=(k34.trans k45) _ _ (by simp) hla3
 have h5lh:=(k34.trans k45) _ _ (by simp) hlh3
 have hS5:=Keep.seq (k04.trans k45) hS
 generalize upd H4 p0 (.lst (ms.map V.int))=H5 at k45 S5 D5 h5p0 h5la h5lh hS5 ⊢
 have nin:∀ {u:Addr},u ≠ x->u ≠ wl->u ≠ st->u ≠ rl->u ∉ [x,wl,st,rl]:=fun h1 h2 h3 h4=>by simp [h1,h2,h3,h4]
 refine ⟨p0,rfl,⟨_,.of h5p0⟩,for_list (K:=K) (a:=p0) (xs:=ms.map V.int) (fun i σ H'=>∃ (s:SS) (v7 v8 v9 v10 v11 v12 v13:Option V),σ=[some (.ref a),some (.ref la),some (.ref lh),some (.int v),some (optV ar),some (.ref x),some (.ref st),v7,v8,v9,v10,v11,v12,v13]/\SeatAt C H' x wl s/\DAt H' st rl s/\SInv N s/\s.row.length <= i/\Keep [x,wl,st,rl] H5 H')
  ⟨_,_,_,_,_,_,_,_,rfl,S5,D5,⟨hu2,fun z e=>(by cases e),fun z hz=>absurd hz List.not_mem_nil,fun z=>Nat.zero_le _⟩,Nat.zero_le _,Keep.refl _⟩ (fun i σ H' _ ⟨_,_,_,_,_,_,_,_,_,_,_,_,_,kp⟩=>.of (kp _ _ (by simp only [List.mem_cons,List.not_mem_nil,or_false,not_or] at x0 d0 ⊢;exact ⟨x0.1,x0.2,d0.1,d0.2⟩) h5p0)) ?_ ?_⟩
 ·rintro i y σ H6 hi ⟨s,v7,v8,v9,v10,v11,v12,v13,rfl,S6,D6,I,lr,kp⟩
  have il:i < ms.length:=by have:=(List.getElem?_eq_some_iff.mp hi).1;simpa using this
  obtain ⟨cell,rfl⟩:∃ z,y=V.int z:=by
   rw [List.getElem?_map] at hi
   cases e:ms[i]? with
   | none=>rw [e] at hi;cases hi
   | some z=>rw [e] at hi;exact ⟨z,(Option.some.inj hi).symm⟩
  have h6la:=kp _ _ (nin lax law' last larl) h5la
  have h6lh:=kp _ _ (nin lhx lhw lhst lhrl) h5lh
  obtain ⟨ps,hrl7,hpr7⟩:=id D6.rw
  refine ⟨_,rfl,st,_,rfl,g_a D6.d,_,rfl,st,_,rfl,g_r D6.d,rl,_,rfl,.inl (.of hrl7),fun lc hlc=>⟨_,rfl,st,_,rfl,g_h (D6.keep (Keep.new hlc)).d,_,rfl,st,_,rfl,g_k (D6.keep (Keep.new hlc)).d,by show 4 <= sizeLine;decide,fun b hb=>?_⟩⟩
  have k68:Keep [] H6 (upd (upd H6 lc (.lst (ps.map V.ref))) b (.lst [optV s.ptr,.ref lc,optV s.hold,.bl s.asked])):=(Keep.new hlc).trans (Keep.new hb)
  have hb8:upd (upd H6 lc (.lst (ps.map V.ref))) b (.lst [optV s.ptr,.ref lc,optV s.hold,.bl s.asked]) b=some (.lst [optV s.ptr,.ref lc,optV s.hold,.bl s.asked]):=upd_same
  have Rc8:Rows (upd (upd H6 lc (.lst (ps.map V.ref))) b (.lst [optV s.ptr,.ref lc,optV s.hold,.bl s.asked])) lc (s.row.map rowV):=⟨ps,(Keep.new (S:=[]) hb) _ _ (by simp) upd_same,paired_keep k68 (fun b hb=>by cases hb) hpr7⟩
  generalize upd (upd H6 lc (.lst (ps.map V.ref))) b (.lst [optV s.ptr,.ref lc,optV s.hold,.bl s.asked])=H8 at k68 hb8 Rc8 ⊢
  refine ⟨_,rfl,_,rfl,_,rfl,N,b,lc,la,lh,s,as,hs,rfl,hb8,Rc8,k68 _ _ (by simp) h6la,k68 _ _ (by simp) h6lh,gas',ghs',by omega,by omega,by omega,fun dl ds H9 R9 Dk L9 F9 k89=>?_⟩
  have k69:=k68.trans k89
  obtain ⟨pd,e9,r9⟩:=id R9
  have lpd:=paired_len r9
  rw [List.length_map] at lpd
  have dpos:0 < ds.length:=by
   have:=F9 hnea
   cases ds with
   | nil=>exact absurd rfl this
   | cons _ _=>simp
  refine ⟨_,rfl,_,rfl,cell,rfl,fun src b1 c1 e1 hsrc=>?_⟩
  have ksrc:Keep [] H9 (upd H9 src (.lst [.int b1,.int c1,.int e1])):=Keep.new hsrc
  have e9s:=ksrc _ _ (by simp) e9
  refine ⟨_,rfl,_,_,rfl,.inl ⟨_,.of e9s,rfl⟩,src,b1,c1,e1,_,rfl,upd_same,by rw [List.length_map];omega,by rw [List.length_map];omega,fun u a' c' u0 u1=>?_⟩
  rw [upd_upd]
  have k910:Keep [] H9 (upd H9 src (.lst [.int a',.int c1,.int c'])):=Keep.new hsrc
  generalize upd H9 src (.lst [.int a',.int c1,.int c'])=H10 at k910 ⊢
  have k610:=k69.trans k910
  obtain ⟨uu,hu1',hu2'⟩:=atI_in (xs:=pd.map V.ref) u0 (by rw [List.length_map] at u1 ⊢;exact u1)
  rw [List.getElem?_map] at hu2'
  cases et:pd[u.toNat]? with
  | none=>rw [et] at hu2';cases hu2'
  | some t=>
  rw [et] at hu2'
  have eu:V.ref t=uu:=Option.some.inj hu2'
  subst eu
  obtain ⟨rr,er,ht⟩:=paired_get r9 _ t et
  rw [List.getElem?_map] at er
  cases ed:ds[u.toNat]? with
  | none=>rw [ed] at er;cases er
  | some dd=>
  rw [ed] at er
  have er':deedV dd=rr:=Option.some.inj er
  subst er'
  have hdd:=Dk dd (List.mem_of_getElem? ed)
  have gin:=deed_in I hdd
  have gnm:GN N dd.nm:=by cases dd <;> exact gin
  refine ⟨dl,_,u,.ref t,rfl,rfl,k910 _ _ (by simp) e9,hu1',?_⟩
  have ht10:H10 t=some (.tup (gdV (gdOf dd))):=by rw [gd_deed];exact k910 _ _ (by simp) ht
  have D10:=D6.keep k610
  have S10:=S6.keep k610
  refine ⟨_,rfl,_,rfl,N,st,rl,t,s,dd,rfl,D10,ht10,I,hdd,by omega,fun r1 H11 D11 R11 hr1' k1011=>?_⟩
  obtain ⟨ps10,hrl10,_⟩:=id D10.rw
  have S11:=S10.keepS k1011 xs ws (no_tupD D10.d hrl10)
  have ht11:=k1011 _ _ (fun hb=>no_tupD D10.d hrl10 t hb _ ht10) ht10
  refine ⟨_,rfl,_,rfl,N,x,wl,t,s,gdOf dd,.told dd,rfl,S11,ht11,I,by omega,pg_deed gnm,.told dd rfl gnm hdd,fun d' e' r2 H12 S12 R12 hr2' k1112=>?_,fun i e=>by cases e⟩
  obtain rfl:dd=d':=Res.told.inj e'
  obtain ⟨dx11,hob11⟩:=S11.ob
  obtain ⟨pw11,hwl11,_⟩:=S11.rw
  have D12:=D11.keepS k1112 sx rx (no_tup hob11 hwl11)
  exact ⟨_,_,_,_,_,_,_,_,rfl,S12,D12,move_inv (deed_inv I hdd),Nat.le_trans (next_len s (.told dd)) (by omega),((kp.trans (k610.mono (by simp))).trans (k1011.mono (by simp))).trans (k1112.mono (by simp))⟩
 ·rintro σ H6 ⟨s,v7,v8,v9,v10,v11,v12,v13,rfl,S6,D6,I,lr,kp⟩
  rw [List.length_map] at lr
  have lms:s.row.length <= 63:=by omega
  have h6la:=kp _ _ (nin lax law' last larl) h5la
  have h6lh:=kp _ _ (nin lhx lhw lhst lhrl) h5lh
  have hS6:=Keep.seq ((k04.trans k45).under kp fr) hS
  obtain ⟨ps,hrl6,hpr6⟩:=id D6.rw
  refine ⟨_,rfl,st,_,rfl,g_a D6.d,_,rfl,st,_,rfl,g_r D6.d,rl,_,rfl,.inl (.of hrl6),fun lk hlk=>⟨_,rfl,st,_,rfl,g_h (D6.keep (Keep.new hlk)).d,_,rfl,st,_,rfl,g_k (D6.keep (Keep.new hlk)).d,by show 4 <= sizeLine;decide,fun kl hkl=>?_⟩⟩
  have hkl6:H6 kl=none:=(upd_none hkl).1
  have k67:Keep [] H6 (upd (upd H6 lk (.lst (ps.map V.ref))) kl (.lst [optV s.ptr,.ref lk,optV s.hold,.bl s.asked])):=(Keep.new hlk).trans (Keep.new hkl)
  have hkl7:upd (upd H6 lk (.lst (ps.map V.ref))) kl (.lst [optV s.ptr,.ref lk,optV s.hold,.bl s.asked]) kl=some (.lst [optV s.ptr,.ref lk,optV s.hold,.bl s.asked]):=upd_same
  have Rk7:Rows (upd (upd H6 lk (.lst (ps.map V.ref))) kl (.lst [optV s.ptr,.ref lk,optV s.hold,.bl s.asked])) lk (s.row.map rowV):=⟨ps,(Keep.new (S:=[]) hkl) _ _ (by simp) upd_same,paired_keep k67 (fun b hb=>by cases hb) hpr6⟩
  generalize upd (upd H6 lk (.lst (ps.map V.ref))) kl (.lst [optV s.ptr,.ref lk,optV s.hold,.bl s.asked])=H7 at k67 hkl7 Rk7 ⊢
  have klS:=S6.fresh hkl6
  have lkS:=S6.fresh hlk
  refine ⟨_,rfl,a,ns,1,rfl,Keep.seq k67 hS6,by decide,fun v1=>⟨v1,rfl,fun src b1 c1 e1 hsrc=>?_⟩⟩
  have ks:Keep [] H7 (upd H7 src (.lst [.int b1,.int c1,.int e1])):=Keep.new hsrc
  refine ⟨_,rfl,_,rfl,src,la,lh,as,hs,rfl,⟨_,_,_,upd_same⟩,(k67.trans ks) _ _ (by simp) h6la,(k67.trans ks) _ _ (by simp) h6lh,gas,ghs,hnea,las,lhs,fun dr gs H8 R8 G8 hdr ks8=>?_⟩
  rw [hN] at G8
  have k78:Keep [] H7 H8:=ks.under ks8 (by intro b hb;rw [List.mem_singleton.mp hb];exact hsrc)
  have k68:=k67.trans k78
  have S8:=S6.keep k68
  have D8:=D6.keep k68
  have drS:=S6.fresh (k67.none (by simp) (ks.none (by simp) hdr))
  obtain ⟨pd,e8,r8⟩:=id R8
  obtain ⟨dx8,hob8⟩:=S8.ob
  obtain ⟨pw8,hwl8,_⟩:=id S8.rw
  refine ⟨dr,rfl,⟨_,.of e8⟩,for_list (K:=K) (a:=dr) (xs:=pd.map V.ref) (fun i σ H'=>∃ (v10 v12 v13:Option V),σ=[some (.ref a),some (.ref la),some (.ref lh),some (.int v),some (optV ar),some (.ref x),some (.ref st),v7,v8,v9,v10,some (.ref kl),v12,v13]/\SeatAt C H' x wl s/\Keep [x,wl] H8 H')
   ⟨_,_,_,rfl,S8,Keep.refl _⟩ (fun i σ H' _ ⟨_,_,_,_,_,kq⟩=>.of (kq _ _ drS e8)) ?_ ?_⟩
  ·rintro i y σ H9 hi ⟨w10,w12,w13,rfl,S9,k89⟩
   rw [List.getElem?_map] at hi
   cases et:pd[i]? with
   | none=>rw [et] at hi;cases hi
   | some t=>
   rw [et] at hi
   obtain rfl:V.ref t=y:=Option.some.inj hi
   obtain ⟨rr,er,ht8⟩:=paired_get r8 _ t et
   rw [List.getElem?_map] at er
   cases eg:gs[i]? with
   | none=>rw [eg] at er;cases er
   | some g=>
   rw [eg] at er
   have er':gdV g=rr:=Option.some.inj er
   subst er'
   obtain ⟨pg8,nm8⟩:=G8 g (List.mem_of_getElem? eg)
   have htn:=fun hb=>no_tup hob8 hwl8 t hb _ ht8
   have ht9:=k89 _ _ htn ht8
   have D9:=D8.keepS k89 sx rx (no_tup hob8 hwl8)
   obtain ⟨vr,ver⟩:=ver_total N s g nm8
   refine ⟨_,rfl,_,rfl,N,st,rl,t,s,g,vr,rfl,D9,ht9,pg8.keepS S8 S9 k89,ver,nm8.imp id (fun ⟨z,h1,h2⟩=>⟨z,h1,h2.2⟩),fun H10 k910=>?_⟩
   have S10:=S9.keep k910
   have k810:=k89.trans (k910.mono (by simp))
   cases vr with
   | told d=>exact ⟨_,rfl,rfl,_,rfl,ifF rfl ⟨_,_,_,rfl,S10,k810⟩⟩
   | bad j=>
    refine ⟨_,rfl,rfl,_,rfl,ifT rfl ?_⟩
    refine ⟨2,rfl,by decide,by decide,for_range (fun i σ H'=>∃ (v13:Option V),σ=[some (.ref a),some (.ref la),some (.ref lh),some (.int v),some (optV ar),some (.ref x),some (.ref st),v7,v8,v9,some (.ref t),some (.ref kl),some (.str (wordOf j)),v13]/\SeatAt C H' x wl s/\Keep [x,wl] H8 H') ⟨_,rfl,S10,k810⟩ ?_ ?_⟩
    ·rintro i' σ H11 _ ⟨w13',rfl,S11,k811⟩
     refine ⟨_,rfl,_,rfl,N,x,wl,t,s,g,.bad j,rfl,S11,k811 _ _ htn ht8,I,by omega,pg8.keepS S8 S11 k811,ver,fun rf H12 S12 A12 hrf k1112=>?_⟩
     refine ⟨_,rfl,by show 2 <= sizeLine;decide,fun tt htt=>?_⟩
     have kt:Keep [] H12 (upd H12 tt (.tup [.str "refused",.str (wordOf j)])):=Keep.new htt
     have e12:H12 rf=some (.tup [.str "refused",.str (wordOf j)]):=A12
     refine ⟨rf,tt,_,_,rfl,rfl,kt _ _ (by simp) e12,upd_same,rfl,rfl,_,rfl,ifF ?_ ⟨_,rfl,S12.keep kt,(k811.trans k1112).trans (kt.mono (by simp))⟩⟩
     show (!eqT (rowV (("refused" : Str),wordOf j)) (rowV (("refused" : Str),wordOf j)))=false
     rw [eqT_row,decide_eq_true rfl];rfl
    ·rintro σ H11 ⟨w13',rfl,S11,k811⟩
     exact ⟨_,_,_,rfl,S11,k811⟩
  rintro σ H9 ⟨w10,w12,w13,rfl,S9,k89⟩
  have D9:=D8.keepS k89 sx rx (no_tup hob8 hwl8)
  have hkl9:=k89 _ _ klS (k78 _ _ (by simp) hkl7)
  have Rk9:=rows_keepS (Rk7.keep k78) k89 lkS (no_tup hob8 hwl8)
  have h9la:=k89 _ _ (by simp [lax,law']) (k68 _ _ (by simp) h6la)
  have h9lh:=k89 _ _ (by simp [lhx,lhw]) (k68 _ _ (by simp) h6lh)
  obtain ⟨f1,f2⟩:=rows_ok s.row (by omega)
  refine ⟨_,rfl,x,wl,s,rfl,S9,fun b1' rl1 H10 hb1 hrl1 hbb Rb k910=>?_⟩
  refine ⟨_,rfl,_,_,rfl,.inr ⟨b1',kl,_,_,rfl,rfl,.inl ⟨hbb,k910 _ _ (by simp) hkl9⟩,.cons (Alk.flat 2 (optV_flat _)) (.cons (alk_rows Rb (Rk9.keep k910) f1 f2) (.cons (Alk.flat 2 (optV_flat _)) (.cons (Alk.flat 2 rfl) .nil))),by show 4 <= 2000;decide⟩,fun H11 k1011=>⟨_,rfl,ifF rfl ?_⟩⟩
  have k911:=k910.trans k1011
  have S11:=S9.keep k911
  have D11:=D9.keep k911
  refine ⟨_,rfl,_,rfl,_,rfl,N,kl,lk,la,lh,s,as,hs,rfl,k911 _ _ (by simp) hkl9,Rk9.keep k911,k911 _ _ (by simp) h9la,k911 _ _ (by simp) h9lh,gas',ghs',by omega,by omega,by omega,fun dl ds H12 R12 Dk L12 F12 k1112=>?_⟩
  obtain ⟨pd2,e12,r12⟩:=id R12
  refine ⟨_,rfl,dl,_,rfl,.of e12,fun p1 hp1=>?_⟩
  rw [cut_takeR pd2 (by decide),show Int.toNat 1=1 from rfl]
  have k1213:Keep [] H12 (upd H12 p1 (.lst ((pd2.take 1).map V.ref))):=Keep.new hp1
  have ep1:upd H12 p1 (.lst ((pd2.take 1).map V.ref)) p1=some (.lst ((pd2.take 1).map V.ref)):=upd_same
  have hp9:H9 p1=none:=(k911.trans k1112).none (by simp) hp1
  generalize upd H12 p1 (.lst ((pd2.take 1).map V.ref))=H13 at k1213 ep1 ⊢
  have S13:=(S11.keep k1112).keep k1213
  have D13:=(D11.keep k1112).keep k1213
  have p1S:=S9.fresh hp9
  have p1D:=D9.fresh hp9
  refine ⟨p1,rfl,⟨_,.of ep1⟩,for_list (K:=K) (a:=p1) (xs:=(pd2.take 1).map V.ref) (fun i σ H'=>∃ (s':SS) (v10:Option V),σ=[some (.ref a),some (.ref la),some (.ref lh),some (.int v),some (optV ar),some (.ref x),some (.ref st),v7,v8,v9,v10,some (.ref kl),w12,w13]/\SeatAt C H' x wl s'/\DAt H' st rl s'/\s'.row.length <= 100/\(i=0->s'=s)/\Keep [x,wl,st,rl] H13 H')
   ⟨s,_,rfl,S13,D13,by omega,fun _=>rfl,Keep.refl _⟩ (fun i σ H' _ ⟨_,_,_,_,_,_,_,kq⟩=>.of (kq _ _ (by simp only [List.mem_cons,List.not_mem_nil,or_false,not_or] at p1S p1D ⊢;exact ⟨p1S.1,p1S.2,p1D.1,p1D.2⟩) ep1)) ?_ ?_⟩
  ·rintro i y σ H14 hi ⟨s',w10',rfl,S14,D14,lr',hs',k1314⟩
   have i0:i=0:=by
    have h1:=(List.getElem?_eq_some_iff.mp hi).1
    rw [List.length_map,List.length_take] at h1
    omega
   subst i0
   have e':=hs' rfl
   rw [e'] at S14 D14
   clear e' hs' lr'
   rw [List.getElem?_map] at hi
   cases et:(pd2.take 1)[0]? with
   | none=>rw [et] at hi;cases hi
   | some t=>
   rw [et] at hi
   obtain rfl:V.ref t=y:=Option.some.inj hi
   have et':pd2[0]?=some t:=by rw [<- et];cases pd2 <;> rfl
   obtain ⟨rr,er,ht12⟩:=paired_get r12 _ t et'
   rw [List.getElem?_map] at er
   cases ed:ds[0]? with
   | none=>rw [ed] at er;cases er
   | some dd=>
   rw [ed] at er
   have er':deedV dd=rr:=Option.some.inj er
   subst er'
   have hdd:=Dk dd (List.mem_of_getElem? ed)
   have gin:=deed_in I hdd
   have gnm:GN N dd.nm:=by cases dd <;> exact gin
   have ht13:H13 t=some (.tup (gdV (gdOf dd))):=by rw [gd_deed];exact k1213 _ _ (by simp) ht12
   obtain ⟨dx13,hob13⟩:=S13.ob
   obtain ⟨pw13,hwl13,_⟩:=id S13.rw
   obtain ⟨pr13,hrl13,_⟩:=id D13.rw
   have ht14:=k1314 _ _ (fun hb=>by
    simp only [List.mem_cons,List.not_mem_nil,or_false] at hb
    rcases hb with h | h | h | h
    ·exact no_tup hob13 hwl13 t (by rw [h];simp) _ ht13
    ·exact no_tup hob13 hwl13 t (by rw [h];simp) _ ht13
    ·exact no_tupD D13.d hrl13 t (by rw [h];simp) _ ht13
    ·exact no_tupD D13.d hrl13 t (by rw [h];simp) _ ht13) ht13
   refine ⟨_,rfl,_,rfl,N,x,wl,t,s,gdOf dd,.told dd,rfl,S14,ht14,I,by omega,pg_deed gnm,.told dd rfl gnm hdd,fun rf H15 S15 A15 hrf k1415=>?_⟩
   obtain ⟨dx14,hob14⟩:=S14.ob
   obtain ⟨pw14,hwl14,_⟩:=id S14.rw
   obtain ⟨pr14,hrl14,_⟩:=id D14.rw
   have D15:=D14.keepS k1415 sx rx (no_tup hob14 hwl14)
   have ht15:=k1415 _ _ (fun hb=>no_tup hob14 hwl14 t hb _ ht14) ht14
   refine ⟨_,rfl,_,rfl,N,st,rl,t,s,dd,rfl,D15,ht15,I,hdd,by omega,fun r2 H16 D16 R16 hr2' k1516=>⟨by show 2 <= sizeLine;decide,fun tt htt=>?_⟩⟩
   obtain ⟨pr15,hrl15,_⟩:=id D15.rw
   have S16:=S15.keepS k1516 xs ws (no_tupD D15.d hrl15)
   have A16:=ans_keepS A15 k1516 (fun b hb=>by
    simp only [List.mem_cons,List.not_mem_nil,or_false] at hb
    rcases hb with rfl | rfl
    ·rw [D14.d];intro e;cases e
    ·rw [hrl14];intro e;cases e) (no_tupD D15.d hrl15)
   have kt:Keep [] H16 (upd H16 tt (.tup [.str "told",.ref r2])):=Keep.new htt
   have A17:=ans_keepS A16 kt (fun b hb=>absurd hb List.not_mem_nil) (fun b hb=>absurd hb List.not_mem_nil)
   have A2:Ans s (.told dd) H15 (upd H16 tt (.tup [.str "told",.ref r2])) tt:=⟨r2,upd_same,R16.keep kt,hr2'⟩
   refine ⟨_,_,rfl,ans_alk A17 A2,fun H18 k18=>⟨_,rfl,ifF rfl ?_⟩⟩
   have kz:=kt.trans k18
   exact ⟨nextS s (.told dd),_,rfl,S16.keep kz,(show DAt H16 st rl (nextS s (.told dd)) from D16).keep kz,Nat.le_trans (next_len s (.told dd)) (by omega),fun e=>(by cases e),((k1314.trans (k1415.mono (by simp))).trans (k1516.mono (by simp))).trans (kz.mono (by simp))⟩
  ·rintro σ H14 ⟨s',w10',rfl,S14,D14,lr',hs',k1314⟩
   refine ⟨_,rfl,x,wl,s',rfl,S14,fun b2' rl2 H15 hb2 hrl2 hbb2 Rb2 k1415=>?_⟩
   have D15:=D14.keep k1415
   refine ⟨_,rfl,st,_,rfl,g_a D15.d,_,rfl,st,_,rfl,g_r D15.d,_,rfl,st,_,rfl,g_h D15.d,_,rfl,st,_,rfl,g_k D15.d,by show 4 <= sizeLine;decide,fun ld hld=>?_⟩
   have k16:Keep [] H15 (upd H15 ld (.lst [optV s'.ptr,.ref rl,optV s'.hold,.bl s'.asked])):=Keep.new hld
   have eld:upd H15 ld (.lst [optV s'.ptr,.ref rl,optV s'.hold,.bl s'.asked]) ld=some (.lst [optV s'.ptr,.ref rl,optV s'.hold,.bl s'.asked]):=upd_same
   generalize upd H15 ld (.lst [optV s'.ptr,.ref rl,optV s'.hold,.bl s'.asked])=H16 at k16 eld ⊢
   obtain ⟨f1',f2'⟩:=rows_ok s'.row (by omega)
   exact ⟨_,_,rfl,.inr ⟨b2',ld,_,_,rfl,rfl,.inl ⟨k16 _ _ (by simp) hbb2,eld⟩,.cons (Alk.flat 2 (optV_flat _)) (.cons (alk_rows (Rb2.keep k16) (D15.rw.keep k16) f1' f2') (.cons (Alk.flat 2 (optV_flat _)) (.cons (Alk.flat 2 rfl) .nil))),by show 4 <= 2000;decide⟩,fun H17 _=>k H17⟩
end
end K15
section
open PySem PySem.W PyProof.Rows
set_option maxHeartbeats 0
noncomputable section
namespace HD
open PySem PySem.W L2
variable (P:Params)
def tp (i:Nat):Stmt:=PySem.Challenge.pw_treeright_k15_refused_at_all_doors.main.body.getD i (.Pass ⟨0,0,0,0⟩)
def ic (i j:Nat):Stmt:=inClass (tp i) j
abbrev N:=@BT.node
abbrev L:=BT.nil
def en (P:Params) (k:Str) (t:Nat) (v:Value):DictEntry:=⟨PyData.keyHash P k,.str k t,v⟩
noncomputable def o0:Obj:=⟨(.type "tuple"),none,(Data.seq #[] 0),#[]⟩
noncomputable def h0 (a0:Str) (a1:Str) (a2:Stmt) (a3:Str) (a4:Nat) (a5:Nat):Obj:=⟨(.type "function"),none,(Data.func ⟨a0,a1,(defArgs a2),(FuncBody.stmts (defBody a2)),(defScope a2),3,[],.none,.none,.none,(.str a3 a4),none,(.ref a5),.none,0⟩),#[]⟩
noncomputable def o1:Obj:=h0 "crowd" "Seat.crowd" (ic 22 6) "treeright.seats" 427 257
noncomputable def o2:Obj:=h0 "check_house" "check_house" (tp 21) "treeright.seats" 427 203
noncomputable def o16:Obj:=h0 "has_asked" "Seat.has_asked" (ic 22 4) "treeright.seats" 427 245
noncomputable def o18:Obj:=h0 "_law_made" "_law_made" (tp 39) "law_treeright_k15_refused_at_all_doors" 596 438
noncomputable def o19:Obj:=h0 "_law_pools" "_law_pools" (tp 33) "law_treeright_k15_refused_at_all_doors" 596 398
noncomputable def o20:Obj:=h0 "_law_digits" "_law_digits" (tp 26) "law_treeright_k15_refused_at_all_doors" 596 355
noncomputable def o23:Obj:=h0 "_law_alike" "_law_alike" (tp 31) "law_treeright_k15_refused_at_all_doors" 596 384
noncomputable def o25:Obj:=h0 "leave" "Seat.leave" (ic 22 11) "treeright.seats" 427 292
noncomputable def o30:Obj:=h0 "__init__" "Seat.__init__" (ic 22 0) "treeright.seats" 427 217
noncomputable def o37:Obj:=h0 "check_asker" "check_asker" (tp 20) "treeright.seats" 427 196
noncomputable def o46:Obj:=h0 "inside" "Seat.inside" (ic 22 3) "treeright.seats" 427 238
noncomputable def o49:Obj:=h0 "_law_bad" "_law_bad" (tp 38) "law_treeright_k15_refused_at_all_doors" 596 431
noncomputable def o64:Obj:=h0 "move_on" "Seat.move_on" (ic 22 15) "treeright.seats" 427 320
noncomputable def o78:Obj:=h0 "twin" "Seat.twin" (ic 22 7) "treeright.seats" 427 264
noncomputable def o91:Obj:=h0 "ask" "Seat.ask" (ic 22 13) "treeright.seats" 427 306
noncomputable def o96:Obj:=h0 "askers" "Seat.askers" (ic 22 5) "treeright.seats" 427 250
noncomputable def o111:Obj:=h0 "state" "Seat.state" (ic 22 8) "treeright.seats" 427 271
noncomputable def o113:Obj:=h0 "_law_why" "_law_why" (tp 42) "law_treeright_k15_refused_at_all_doors" 596 455
noncomputable def o122:Obj:=h0 "_law_names" "_law_names" (tp 28) "law_treeright_k15_refused_at_all_doors" 596 367
noncomputable def o124:Obj:=h0 "want" "Seat.want" (ic 22 10) "treeright.seats" 427 285
noncomputable def o130:Obj:=h0 "arrow" "Seat.arrow" (ic 22 1) "treeright.seats" 427 224
noncomputable def o138:Obj:=h0 "_law_asked" "_law_asked" (tp 40) "law_treeright_k15_refused_at_all_doors" 596 445
noncomputable def o142:Obj:=h0 "_law_kinds" "_law_kinds" (tp 30) "law_treeright_k15_refused_at_all_doors" 596 379
noncomputable def o153:Obj:=h0 "_law_good_deeds" "_law_good_deeds" (tp 34) "law_treeright_k15_refused_at_all_doors" 596 403
noncomputable def o157:Obj:=h0 "row" "Seat.row" (ic 22 2) "treeright.seats" 427 231
noncomputable def o160:Obj:=h0 "law" "law" (tp 43) "law_treeright_k15_refused_at_all_doors" 596 462
noncomputable def o203:Obj:=h0 "settle" "Seat.settle" (ic 22 9) "treeright.seats" 427 278
noncomputable def o213:Obj:=h0 "_law_next" "_law_next" (tp 27) "law_treeright_k15_refused_at_all_doors" 596 362
noncomputable def o221:Obj:=h0 "_law_odd" "_law_odd" (tp 29) "law_treeright_k15_refused_at_all_doors" 596 374
noncomputable def o225:Obj:=h0 "_law_doors" "_law_doors" (tp 41) "law_treeright_k15_refused_at_all_doors" 596 450
noncomputable def o227:Obj:=h0 "serve_first" "Seat.serve_first" (ic 22 16) "treeright.seats" 427 327
noncomputable def o233:Obj:=h0 "__init__" "NoText.__init__" (ic 13 0) "treeright.errors" 194 167
noncomputable def o253:Obj:=h0 "_law_put" "_law_put" (tp 35) "law_treeright_k15_refused_at_all_doors" 596 410
noncomputable def o259:Obj:=h0 "is_name" "is_name" (tp 18) "treeright.trees" 415 189
noncomputable def o263:Obj:=h0 "_wall" "_wall" (tp 0) "__main__" 164 20
noncomputable def o269:Obj:=h0 "_law_told" "_law_told" (tp 32) "law_treeright_k15_refused_at_all_doors" 596 391
noncomputable def o271:Obj:=h0 "_law_cell_at" "_law_cell_at" (tp 24) "law_treeright_k15_refused_at_all_doors" 596 341
noncomputable def o273:Obj:=h0 "_law_mixed" "_law_mixed" (tp 25) "law_treeright_k15_refused_at_all_doors" 596 348
noncomputable def o274:Obj:=h0 "_law_moved" "_law_moved" (tp 37) "law_treeright_k15_refused_at_all_doors" 596 424
noncomputable def o280:Obj:=h0 "done" "Seat.done" (ic 22 12) "treeright.seats" 427 299
noncomputable def o295:Obj:=h0 "come" "Seat.come" (ic 22 14) "treeright.seats" 427 313
noncomputable def o298:Obj:=h0 "_law_state" "_law_state" (tp 36) "law_treeright_k15_refused_at_all_doors" 596 417
noncomputable def h1 (a0:Str) (a1:Nat) (a2:Str) (a3:Nat) (a4:Str) (a5:Nat) (a6:Str) (a7:Nat):Obj:=⟨(.type "tuple"),none,(Data.seq #[(.str a0 a1),(.str a2 a3),(.str a4 a5),(.str a6 a7)] 0),#[]⟩
noncomputable def o3:Obj:=h1 "_law_seat" 736 "_law_deed" 737 "_law_found" 738 "_law_e" 739
noncomputable def o164:Obj:=h1 "asked" 584 "holder" 585 "pointer" 586 "waiting" 587
noncomputable def o229:Obj:=h1 "_law_state_here" 726 "_law_deed" 727 "_law_word" 728 "_law_name" 729
noncomputable def o306:Obj:=h1 "self" 577 "kind" 578 "name" 579 "back" 580
noncomputable def o4:Obj:=⟨.none,none,(Data.fields #[(.int 1 0),(.int 0 0),(.ref 20),(.int 5 0),(.int 0 0),(.ref 27),(.int 7 0),(.int 0 0),(.ref 40)]),#[]⟩
noncomputable def h2 (a0:Str) (a1:Str) (a2:Stmt):Obj:=⟨.none,none,(Data.func ⟨a0,a1,(defArgs a2),(FuncBody.stmts (defBody a2)),(defScope a2),0,[],.none,.none,.none,.none,none,.none,.none,0⟩),#[]⟩
noncomputable def o5:Obj:=h2 "_law_why" "_law_why" (tp 42)
noncomputable def o8:Obj:=h2 "arrow" "Seat.arrow" (ic 22 1)
noncomputable def o10:Obj:=h2 "want" "Seat.want" (ic 22 10)
noncomputable def o21:Obj:=h2 "__init__" "Seat.__init__" (ic 22 0)
noncomputable def o27:Obj:=h2 "_law_cell_at" "_law_cell_at" (tp 24)
noncomputable def o34:Obj:=h2 "has_asked" "Seat.has_asked" (ic 22 4)
noncomputable def o39:Obj:=h2 "ask" "Seat.ask" (ic 22 13)
noncomputable def o42:Obj:=h2 "done" "Seat.done" (ic 22 12)
noncomputable def o65:Obj:=h2 "_law_put" "_law_put" (tp 35)
noncomputable def o66:Obj:=h2 "askers" "Seat.askers" (ic 22 5)
noncomputable def o68:Obj:=h2 "_law_kinds" "_law_kinds" (tp 30)
noncomputable def o89:Obj:=h2 "serve_first" "Seat.serve_first" (ic 22 16)
noncomputable def o90:Obj:=h2 "_law_good_deeds" "_law_good_deeds" (tp 34)
noncomputable def o92:Obj:=h2 "state" "Seat.state" (ic 22 8)
noncomputable def o95:Obj:=h2 "_law_bad" "_law_bad" (tp 38)
noncomputable def o100:Obj:=h2 "row" "Seat.row" (ic 22 2)
noncomputable def o103:Obj:=h2 "_law_state" "_law_state" (tp 36)
noncomputable def o114:Obj:=h2 "_law_alike" "_law_alike" (tp 31)
noncomputable def o116:Obj:=h2 "_law_made" "_law_made" (tp 39)
noncomputable def o140:Obj:=h2 "settle" "Seat.settle" (ic 22 9)
noncomputable def o144:Obj:=h2 "_law_asked" "_law_asked" (tp 40)
noncomputable def o146:Obj:=h2 "_law_next" "_law_next" (tp 27)
noncomputable def o147:Obj:=h2 "move_on" "Seat.move_on" (ic 22 15)
noncomputable def o152:Obj:=h2 "twin" "Seat.twin" (ic 22 7)
noncomputable def o154:Obj:=h2 "_law_mixed" "_law_mixed" (tp 25)
noncomputable def o161:Obj:=h2 "law" "law" (tp 43)
noncomputable def o162:Obj:=h2 "crowd" "Seat.crowd" (ic 22 6)
noncomputable def o165:Obj:=h2 "_law_pools" "_law_pools" (tp 33)
noncomputable def o175:Obj:=h2 "check_asker" "check_asker" (tp 20)
noncomputable def o180:Obj:=h2 "check_house" "check_house" (tp 21)
noncomputable def o185:Obj:=h2 "is_name" "is_name" (tp 18)
noncomputable def o231:Obj:=h2 "come" "Seat.come" (ic 22 14)
noncomputable def o246:Obj:=h2 "__init__" "NoText.__init__" (ic 13 0)
noncomputable def o249:Obj:=h2 "inside" "Seat.inside" (ic 22 3)
noncomputable def o254:Obj:=h2 "_law_told" "_law_told" (tp 32)
noncomputable def o255:Obj:=h2 "leave" "Seat.leave" (ic 22 11)
noncomputable def o277:Obj:=h2 "_law_odd" "_law_odd" (tp 29)
noncomputable def o289:Obj:=h2 "_law_doors" "_law_doors" (tp 41)
noncomputable def o303:Obj:=h2 "_law_names" "_law_names" (tp 28)
noncomputable def o308:Obj:=h2 "_law_moved" "_law_moved" (tp 37)
noncomputable def o316:Obj:=h2 "_law_digits" "_law_digits" (tp 26)
noncomputable def o317:Obj:=h2 "_wall" "_wall" (tp 0)
noncomputable def h3 (a0:Nat):Obj:=⟨(.type "super"),none,(Data.fields #[(.ref a0),(.ref a0),(.ref a0)]),#[]⟩
noncomputable def o6:Obj:=h3 140
noncomputable def o36:Obj:=h3 171
noncomputable def o127:Obj:=h3 68
noncomputable def o133:Obj:=h3 183
noncomputable def o168:Obj:=h3 92
noncomputable def o183:Obj:=h3 80
noncomputable def o243:Obj:=h3 56
noncomputable def o247:Obj:=h3 116
noncomputable def o250:Obj:=h3 31
noncomputable def o264:Obj:=h3 104
noncomputable def o266:Obj:=h3 331
noncomputable def o293:Obj:=h3 152
noncomputable def o294:Obj:=h3 128
noncomputable def o309:Obj:=h3 44
noncomputable def o7:Obj:=⟨(.type "dict"),none,(Data.dict #[en P "__name__" 165 (.str "treeright.seats" 427),en P "__doc__" 166 .none,en P "__package__" 167 .none,en P "__loader__" 168 (.builtin "__main__.__loader__#opaque"),en P "__spec__" 169 .none,en P "__annotations__" 170 (.ref 6),en P "__builtins__" 171 (.ref 4),en P "__file__" 173 (.str "/claim/cut.py" 172),en P "__cached__" 174 .none,en P "_wall" 193 (.ref 21),en P "TreeError" 213 (.ref 31),en P "NoTree" 229 (.ref 44),en P "NoHouse" 245 (.ref 56),en P "NoSeat" 261 (.ref 68),en P "NoAsker" 277 (.ref 80),en P "NoLetter" 293 (.ref 92),en P "NoRight" 309 (.ref 104),en P "NoRow" 325 (.ref 116),en P "NoTie" 341 (.ref 128),en P "Down" 357 (.ref 140),en P "NoMend" 373 (.ref 152),en P "NoText" 398 (.ref 171),en P "NoLine" 414 (.ref 183),en P "LETTERS" 418 (.str "abcdefghijklmnopqrstuvwxyz" 417),en P "LONGEST_NAME" 420 (.int 8 419),en P "is_name" 426 (.ref 190),en P "check_asker" 435 (.ref 197),en P "check_house" 442 (.ref 204)] 28),#[]⟩
noncomputable def o9:Obj:=⟨(.type "dict"),none,(Data.dict #[en P "__name__" 165 (.str "treeright.errors" 194),en P "__doc__" 166 .none,en P "__package__" 167 .none,en P "__loader__" 168 (.builtin "__main__.__loader__#opaque"),en P "__spec__" 169 .none,en P "__annotations__" 170 (.ref 6),en P "__builtins__" 171 (.ref 4),en P "__file__" 173 (.str "/claim/cut.py" 172),en P "__cached__" 174 .none,en P "_wall" 193 (.ref 21),en P "TreeError" 213 (.ref 31),en P "NoTree" 229 (.ref 44),en P "NoHouse" 245 (.ref 56),en P "NoSeat" 261 (.ref 68),en P "NoAsker" 277 (.ref 80),en P "NoLetter" 293 (.ref 92)] 16),#[]⟩
noncomputable def o11:Obj:=⟨.none,none,(Data.fields #[]),#[]⟩
noncomputable def o12:Obj:=⟨(.type "type"),none,(Data.cls ⟨"TreeError",[(.type "ValueError")],[(.ref 31),(.type "ValueError"),(.type "Exception"),(.type "BaseException"),(.type "object")],30,"TreeError",true,[],[(.ref 44),(.ref 56),(.ref 68),(.ref 80),(.ref 92),(.ref 104),(.ref 116)],false,none,false⟩),#[(some (.ref 22)),none,(some (.str "TreeError" 196)),(some (.str "TreeError" 204)),(some (.builtin "ValueError.__new__")),(some (.bool true))]⟩
noncomputable def o13:Obj:=⟨.none,none,(Data.fields #[(.int 1 0),(.int 0 0),(.ref 20),(.int 5 0),(.int 0 0),(.ref 27)]),#[]⟩
noncomputable def h4 (a0:Str) (a1:Nat) (a2:Nat) (a3:Nat) (a4:Nat) (a5:Nat):Obj:=⟨(.type "type"),none,(Data.cls ⟨a0,[(.ref 31)],[(.ref a1),(.ref 31),(.type "ValueError"),(.type "Exception"),(.type "BaseException"),(.type "object")],a2,a0,true,[],[],false,none,false⟩),#[(some (.ref a3)),none,(some (.str a0 a4)),(some (.str a0 a5)),(some (.builtin "ValueError.__new__")),(some (.bool true))]⟩
noncomputable def o14:Obj:=h4 "NoRight" 104 103 95 294 302
noncomputable def o15:Obj:=h4 "NoTree" 44 43 35 214 222
noncomputable def o33:Obj:=h4 "NoMend" 152 151 143 358 366
noncomputable def o48:Obj:=h4 "NoRow" 116 115 107 310 318
noncomputable def o55:Obj:=h4 "NoText" 171 170 155 374 382
noncomputable def o93:Obj:=h4 "Down" 140 139 131 342 350
noncomputable def o195:Obj:=h4 "NoLine" 183 182 174 399 407
noncomputable def o210:Obj:=h4 "NoTie" 128 127 119 326 334
noncomputable def o222:Obj:=h4 "NoAsker" 80 79 71 262 270
noncomputable def o245:Obj:=h4 "NoLetter" 92 91 83 278 286
noncomputable def o279:Obj:=h4 "NoHouse" 56 55 47 230 238
noncomputable def o282:Obj:=h4 "NoSeat" 68 67 59 246 254
noncomputable def h5 (a0:Str) (a1:Nat) (a2:Str) (a3:Nat) (a4:Nat) (a5:Int) (a6:Int) (a7:Nat) (a8:Nat) (a9:Nat) (a10:Nat) (a11:Nat) (a12:Int) (a13:Nat):Obj:=⟨(.type "code"),none,(Data.fields #[(.str a0 a1),(.str a2 a3),(.str "/claim/cut.py" a4),(.int a5 0),(.int a6 0),(.int 0 0),(.int 0 0),(.int 3 0),(.ref a7),(.bool true),(.int 181 0),(.ref a8),.none,(.ref a9),(.ref a10),(.ref a11),(.int a12 0),(.int a5 0),(.str "/claim/cut.py" a13)]),#[]⟩
noncomputable def o17:Obj:=h5 "row" 470 "Seat.row" 471 472 61 1 226 227 228 229 230 474 475
noncomputable def o22:Obj:=h5 "_law_made" 723 "_law_made" 724 725 259 2 433 434 435 436 437 730 731
noncomputable def o31:Obj:=h5 "crowd" 497 "Seat.crowd" 498 499 74 1 252 253 254 255 256 501 502
noncomputable def o43:Obj:=h5 "has_asked" 484 "Seat.has_asked" 485 486 67 1 240 241 242 243 244 488 489
noncomputable def o50:Obj:=h5 "inside" 477 "Seat.inside" 478 479 64 1 233 234 235 236 237 481 482
noncomputable def o57:Obj:=h5 "_law_state" 694 "_law_state" 695 696 229 1 412 413 414 415 416 698 699
noncomputable def o61:Obj:=h5 "serve_first" 574 "Seat.serve_first" 575 576 138 1 322 323 324 325 326 581 582
noncomputable def o79:Obj:=h5 "_law_mixed" 606 "_law_mixed" 607 608 152 2 343 344 345 346 347 612 613
noncomputable def o81:Obj:=h5 "_law_cell_at" 598 "_law_cell_at" 599 600 148 2 336 337 338 339 340 603 604
noncomputable def o82:Obj:=h5 "arrow" 463 "Seat.arrow" 464 465 58 1 219 220 221 222 223 467 468
noncomputable def o83:Obj:=h5 "_law_moved" 701 "_law_moved" 702 703 231 1 419 420 421 422 423 707 708
noncomputable def o85:Obj:=h5 "twin" 504 "Seat.twin" 505 506 77 1 259 260 261 262 263 508 509
noncomputable def o88:Obj:=h5 "want" 526 "Seat.want" 527 528 86 2 280 281 282 283 284 531 532
noncomputable def o101:Obj:=h5 "settle" 518 "Seat.settle" 519 520 83 2 273 274 275 276 277 523 524
noncomputable def o115:Obj:=h5 "__init__" 455 "Seat.__init__" 456 457 50 2 212 213 214 215 216 460 461
noncomputable def o121:Obj:=h5 "done" 542 "Seat.done" 543 544 100 2 294 295 296 297 298 547 548
noncomputable def o123:Obj:=h5 "_law_digits" 615 "_law_digits" 616 617 157 1 350 351 352 353 354 619 620
noncomputable def o141:Obj:=h5 "check_asker" 429 "check_asker" 430 431 42 1 191 192 193 194 195 433 434
noncomputable def o150:Obj:=h5 "come" 558 "Seat.come" 559 560 116 3 308 309 310 311 312 564 565
noncomputable def o151:Obj:=h5 "_law_next" 622 "_law_next" 623 624 159 2 357 358 359 360 361 628 629
noncomputable def o155:Obj:=h5 "ask" 550 "Seat.ask" 551 552 107 2 301 302 303 304 305 555 556
noncomputable def o172:Obj:=h5 "_wall" 187 "_wall" 188 189 1 1 15 16 17 18 19 191 192
noncomputable def o189:Obj:=h5 "__init__" 386 "NoText.__init__" 387 388 29 2 162 163 164 165 166 391 392
noncomputable def o204:Obj:=h5 "state" 511 "Seat.state" 512 513 80 1 266 267 268 269 270 515 516
noncomputable def o206:Obj:=h5 "check_house" 436 "check_house" 437 438 45 1 198 199 200 201 202 440 441
noncomputable def o214:Obj:=h5 "_law_put" 686 "_law_put" 687 688 219 2 405 406 407 408 409 691 692
noncomputable def o218:Obj:=h5 "_law_pools" 668 "_law_pools" 669 670 200 1 393 394 395 396 397 677 678
noncomputable def o272:Obj:=h5 "law" 755 "law" 756 757 297 1 457 458 459 460 461 772 773
noncomputable def o276:Obj:=h5 "_law_asked" 733 "_law_asked" 734 735 275 2 440 441 442 443 444 740 741
noncomputable def o281:Obj:=h5 "move_on" 567 "Seat.move_on" 568 569 128 1 315 316 317 318 319 571 572
noncomputable def o287:Obj:=h5 "leave" 534 "Seat.leave" 535 536 93 2 287 288 289 290 291 539 540
noncomputable def o297:Obj:=h5 "_law_odd" 637 "_law_odd" 638 639 171 2 369 370 371 372 373 646 647
noncomputable def o301:Obj:=h5 "_law_told" 661 "_law_told" 662 663 198 1 386 387 388 389 390 665 666
noncomputable def o302:Obj:=h5 "_law_bad" 710 "_law_bad" 711 712 246 2 426 427 428 429 430 720 721
noncomputable def h6 (a0:Nat) (a1:Nat) (a2:Str) (a3:Nat) (a4:Nat) (a5:Int) (a6:Nat) (a7:Nat) (a8:Nat):Obj:=⟨(.type "dict"),none,(Data.dict #[en P "__module__" a0 (.str "treeright.errors" 194),en P "__qualname__" a1 (.str a2 a3),en P "__firstlineno__" a4 (.int a5 a6),en P "__static_attributes__" a7 (.ref a8)] 4),#[]⟩
noncomputable def o24:Obj:=h6 P 317 319 "NoRow" 318 321 19 320 322 114
noncomputable def o26:Obj:=h6 P 301 303 "NoRight" 302 305 17 304 306 102
noncomputable def o77:Obj:=h6 P 365 367 "NoMend" 366 369 25 368 370 150
noncomputable def o109:Obj:=h6 P 333 335 "NoTie" 334 337 21 336 338 126
noncomputable def o192:Obj:=h6 P 406 408 "NoLine" 407 410 32 409 411 181
noncomputable def o194:Obj:=h6 P 269 271 "NoAsker" 270 273 13 272 274 78
noncomputable def o198:Obj:=h6 P 285 287 "NoLetter" 286 289 15 288 290 90
noncomputable def o207:Obj:=h6 P 237 239 "NoHouse" 238 241 9 240 242 54
noncomputable def o230:Obj:=h6 P 221 223 "NoTree" 222 225 7 224 226 42
noncomputable def o234:Obj:=h6 P 253 255 "NoSeat" 254 257 11 256 258 66
noncomputable def o286:Obj:=h6 P 203 205 "TreeError" 204 207 5 206 208 29
noncomputable def o296:Obj:=h6 P 349 351 "Down" 350 353 23 352 354 138
noncomputable def h7 (a0:Str) (a1:Nat):Obj:=⟨(.type "tuple"),none,(Data.seq #[(.str a0 a1)] 0),#[]⟩
noncomputable def o28:Obj:=h7 "self" 514
noncomputable def o67:Obj:=h7 "self" 507
noncomputable def o69:Obj:=h7 "_law_cell" 618
noncomputable def o99:Obj:=h7 "self" 466
noncomputable def o159:Obj:=h7 "self" 570
noncomputable def o169:Obj:=h7 "self" 480
noncomputable def o179:Obj:=h7 "_law_arrow" 697
noncomputable def o199:Obj:=h7 "line" 394
noncomputable def o200:Obj:=h7 "asker" 432
noncomputable def o217:Obj:=h7 "self" 487
noncomputable def o226:Obj:=h7 "self" 473
noncomputable def o257:Obj:=h7 "_law_seat" 664
noncomputable def o260:Obj:=h7 "self" 500
noncomputable def o284:Obj:=h7 "k" 190
noncomputable def o300:Obj:=h7 "house" 439
noncomputable def h8 (a0:Nat) (a1:Nat) (a2:Int) (a3:Nat) (a4:Str) (a5:Nat) (a6:Nat) (a7:Str) (a8:Nat) (a9:Nat) (a10:Nat) (a11:Nat):Obj:=⟨(.type "dict"),none,(Data.dict #[en P "__module__" a0 (.str "treeright.errors" 194),en P "__firstlineno__" a1 (.int a2 a3),en P a4 a5 (.ref a6),en P a7 a8 (.ref a9),en P "__doc__" a10 .none] a11),#[]⟩
noncomputable def o29:Obj:=h8 P 203 207 5 206 "__static_attributes__" 208 29 "__weakref__" 210 32 211 3
noncomputable def o197:Obj:=h8 P 381 385 27 384 "__init__" 393 168 "__static_attributes__" 395 169 396 2
noncomputable def h9 (a0:Str) (a1:Nat) (a2:Str) (a3:Nat):Obj:=⟨(.type "tuple"),none,(Data.seq #[(.str a0 a1),(.str a2 a3)] 0),#[]⟩
noncomputable def o32:Obj:=h9 "self" 529 "asker" 530
noncomputable def o54:Obj:=h9 "self" 545 "asker" 546
noncomputable def o60:Obj:=h9 "self" 537 "asker" 538
noncomputable def o98:Obj:=h9 "_law_script" 601 "_law_k" 602
noncomputable def o128:Obj:=h9 "self" 521 "arrow" 522
noncomputable def o177:Obj:=h9 "self" 553 "house" 554
noncomputable def o248:Obj:=h9 "self" 389 "line" 390
noncomputable def o258:Obj:=h9 "_law_seat" 689 "_law_deed" 690
noncomputable def o275:Obj:=h9 "self" 458 "arrow" 459
noncomputable def h10 (a0:Str) (a1:Nat) (a2:Nat) (a3:Nat) (a4:Int) (a5:Nat) (a6:Nat) (a7:Int) (a8:Nat):Obj:=⟨(.type "code"),none,(Data.fields #[(.str a0 a1),(.str a0 a2),(.str "/claim/cut.py" a3),(.int a4 0),(.int 0 0),(.int 0 0),(.int 0 0),(.int 0 0),(.ref a5),(.bool false),(.int 181 0),(.ref a6),.none,.none,.none,.none,(.int a7 0),(.int a4 0),(.str "/claim/cut.py" a8)]),#[]⟩
noncomputable def o35:Obj:=h10 "NoLine" 401 402 403 32 177 178 404 405
noncomputable def o72:Obj:=h10 "NoTie" 328 329 330 21 122 123 331 332
noncomputable def o112:Obj:=h10 "NoHouse" 232 233 234 9 50 51 235 236
noncomputable def o125:Obj:=h10 "Seat" 445 446 447 48 208 209 448 449
noncomputable def o136:Obj:=h10 "NoTree" 216 217 218 7 38 39 219 220
noncomputable def o149:Obj:=h10 "TreeError" 198 199 200 5 25 26 201 202
noncomputable def o171:Obj:=h10 "<module>" 182 183 184 1 11 12 185 186
noncomputable def o173:Obj:=h10 "NoRow" 312 313 314 19 110 111 315 316
noncomputable def o178:Obj:=h10 "NoSeat" 248 249 250 11 62 63 251 252
noncomputable def o223:Obj:=h10 "NoRight" 296 297 298 17 98 99 299 300
noncomputable def o224:Obj:=h10 "NoLetter" 280 281 282 15 86 87 283 284
noncomputable def o235:Obj:=h10 "NoText" 376 377 378 27 158 159 379 380
noncomputable def o268:Obj:=h10 "NoAsker" 264 265 266 13 74 75 267 268
noncomputable def o290:Obj:=h10 "NoMend" 360 361 362 25 146 147 363 364
noncomputable def o314:Obj:=h10 "Down" 344 345 346 23 134 135 347 348
noncomputable def h11 (a0:Nat) (a1:Nat) (a2:Str) (a3:Nat):Obj:=⟨(.type "frame"),none,Data.plain,#[(some (.ref a0)),(some (.ref 3)),(some (.ref a1)),none,(some (.str a2 a3)),none,(some (.ref 0))]⟩
noncomputable def o38:Obj:=h11 124 121 "treeright.errors" 194
noncomputable def o40:Obj:=h11 64 61 "treeright.errors" 194
noncomputable def o59:Obj:=h11 148 145 "treeright.errors" 194
noncomputable def o62:Obj:=h11 112 109 "treeright.errors" 194
noncomputable def o63:Obj:=h11 136 133 "treeright.errors" 194
noncomputable def o80:Obj:=h11 13 3 "__main__" 164
noncomputable def o110:Obj:=h11 88 85 "treeright.errors" 194
noncomputable def o132:Obj:=h11 27 24 "treeright.errors" 194
noncomputable def o135:Obj:=h11 52 49 "treeright.errors" 194
noncomputable def o139:Obj:=h11 210 207 "treeright.seats" 427
noncomputable def o158:Obj:=h11 76 73 "treeright.errors" 194
noncomputable def o184:Obj:=h11 100 97 "treeright.errors" 194
noncomputable def o205:Obj:=h11 40 37 "treeright.errors" 194
noncomputable def o242:Obj:=h11 160 157 "treeright.errors" 194
noncomputable def o256:Obj:=h11 179 176 "treeright.errors" 194
noncomputable def o41:Obj:=⟨(.type "type"),none,(Data.cls ⟨"TreeError",[(.type "ValueError")],[(.ref 31),(.type "ValueError"),(.type "Exception"),(.type "BaseException"),(.type "object")],30,"TreeError",true,[],[(.ref 44),(.ref 56),(.ref 68),(.ref 80),(.ref 92),(.ref 104),(.ref 116),(.ref 128),(.ref 140),(.ref 152),(.ref 171),(.ref 183)],false,none,false⟩),#[(some (.ref 22)),none,(some (.str "TreeError" 196)),(some (.str "TreeError" 204)),(some (.builtin "ValueError.__new__")),(some (.bool true))]⟩
noncomputable def h12 (a0:Nat):Obj:=⟨(.type "builtin_function_or_method"),none,(Data.fields #[(.builtin "object.__init_subclass__"),(.ref a0)]),#[]⟩
noncomputable def o44:Obj:=h12 31
noncomputable def o70:Obj:=h12 183
noncomputable def o71:Obj:=h12 56
noncomputable def o97:Obj:=h12 128
noncomputable def o131:Obj:=h12 116
noncomputable def o166:Obj:=h12 152
noncomputable def o176:Obj:=h12 171
noncomputable def o186:Obj:=h12 140
noncomputable def o193:Obj:=h12 331
noncomputable def o201:Obj:=h12 80
noncomputable def o232:Obj:=h12 44
noncomputable def o240:Obj:=h12 68
noncomputable def o241:Obj:=h12 92
noncomputable def o312:Obj:=h12 104
noncomputable def o45:Obj:=⟨(.type "type"),none,(Data.cls ⟨"TreeError",[(.type "ValueError")],[(.ref 31),(.type "ValueError"),(.type "Exception"),(.type "BaseException"),(.type "object")],30,"TreeError",true,[],[(.ref 44),(.ref 56),(.ref 68),(.ref 80),(.ref 92),(.ref 104)],false,none,false⟩),#[(some (.ref 22)),none,(some (.str "TreeError" 196)),(some (.str "TreeError" 204)),(some (.builtin "ValueError.__new__")),(some (.bool true))]⟩
noncomputable def h13 (a0:Str) (a1:Nat) (a2:Str) (a3:Nat) (a4:Str) (a5:Nat):Obj:=⟨(.type "tuple"),none,(Data.seq #[(.str a0 a1),(.str a2 a3),(.str a4 a5)] 0),#[]⟩
noncomputable def o47:Obj:=h13 "_law_source" 625 "_law_many" 626 "_law_found" 627
noncomputable def o163:Obj:=h13 "self" 561 "house" 562 "back" 563
noncomputable def o174:Obj:=h13 "_law_state_here" 704 "_law_word" 705 "_law_name" 706
noncomputable def o251:Obj:=h13 "_law_cell" 609 "_law_k" 610 "_law_number" 611
noncomputable def o51:Obj:=⟨(.type "type"),none,(Data.cls ⟨"TreeError",[(.type "ValueError")],[(.ref 31),(.type "ValueError"),(.type "Exception"),(.type "BaseException"),(.type "object")],30,"TreeError",true,[],[(.ref 44),(.ref 56),(.ref 68),(.ref 80),(.ref 92),(.ref 104),(.ref 116),(.ref 128)],false,none,false⟩),#[(some (.ref 22)),none,(some (.str "TreeError" 196)),(some (.str "TreeError" 204)),(some (.builtin "ValueError.__new__")),(some (.bool true))]⟩
noncomputable def o52:Obj:=⟨(.type "type"),none,(Data.cls ⟨"TreeError",[(.type "ValueError")],[(.ref 31),(.type "ValueError"),(.type "Exception"),(.type "BaseException"),(.type "object")],30,"TreeError",true,[],[(.ref 44),(.ref 56),(.ref 68)],false,none,false⟩),#[(some (.ref 22)),none,(some (.str "TreeError" 196)),(some (.str "TreeError" 204)),(some (.builtin "ValueError.__new__")),(some (.bool true))]⟩
noncomputable def h14 (a0:Int) (a1:Int) (a2:Nat) (a3:Int) (a4:Nat) (a5:Int) (a6:Nat) (a7:Int) (a8:Nat) (a9:Int) (a10:Nat) (a11:Int) (a12:Nat) (a13:Int) (a14:Nat) (a15:Int) (a16:Nat) (a17:Int) (a18:Nat) (a19:Int) (a20:Nat) (a21:Int) (a22:Nat):Obj:=⟨.none,none,(Data.fields #[(.int a0 0),(.int a1 0),(.ref a2),(.int a3 0),(.int a1 0),(.ref a4),(.int a5 0),(.int a1 0),(.ref a6),(.int a7 0),(.int a1 0),(.ref a8),(.int a9 0),(.int a1 0),(.ref a10),(.int a11 0),(.int a1 0),(.ref a12),(.int a13 0),(.int a1 0),(.ref a14),(.int a15 0),(.int a1 0),(.ref a16),(.int a17 0),(.int a1 0),(.ref a18),(.int a19 0),(.int a1 0),(.ref a20),(.int a21 0),(.int a1 0),(.ref a22)]),#[]⟩
noncomputable def o53:Obj:=h14 50 4 217 58 224 61 231 64 238 67 245 70 250 74 257 77 264 80 271 83 278 86 285
noncomputable def o182:Obj:=h14 1 0 20 5 27 7 40 9 52 11 64 13 76 15 88 17 100 19 112 21 124 23 136
noncomputable def o56:Obj:=⟨(.type "builtin_function_or_method"),none,(Data.fields #[(.builtin "type.__prepare__"),(.type "type")]),#[]⟩
noncomputable def o58:Obj:=⟨(.type "tuple"),none,(Data.seq #[(.ref 31)] 0),#[]⟩
noncomputable def h15 (a0:Nat) (a1:Nat) (a2:Int) (a3:Nat) (a4:Nat) (a5:Nat) (a6:Nat):Obj:=⟨(.type "dict"),none,(Data.dict #[en P "__module__" a0 (.str "treeright.errors" 194),en P "__firstlineno__" a1 (.int a2 a3),en P "__static_attributes__" a4 (.ref a5),en P "__doc__" a6 .none] 2),#[]⟩
noncomputable def o73:Obj:=h15 P 349 353 23 352 354 138 355
noncomputable def o74:Obj:=h15 P 333 337 21 336 338 126 339
noncomputable def o102:Obj:=h15 P 317 321 19 320 322 114 323
noncomputable def o118:Obj:=h15 P 269 273 13 272 274 78 275
noncomputable def o212:Obj:=h15 P 253 257 11 256 258 66 259
noncomputable def o215:Obj:=h15 P 365 369 25 368 370 150 371
noncomputable def o267:Obj:=h15 P 237 241 9 240 242 54 243
noncomputable def o291:Obj:=h15 P 221 225 7 224 226 42 227
noncomputable def o304:Obj:=h15 P 301 305 17 304 306 102 307
noncomputable def o310:Obj:=h15 P 406 410 32 409 411 181 412
noncomputable def o313:Obj:=h15 P 285 289 15 288 290 90 291
noncomputable def o75:Obj:=⟨(.type "dict"),none,(Data.dict #[en P "__module__" 381 (.str "treeright.errors" 194),en P "__qualname__" 383 (.str "NoText" 382),en P "__firstlineno__" 385 (.int 27 384),en P "__init__" 393 (.ref 168),en P "__static_attributes__" 395 (.ref 169)] 5),#[]⟩
noncomputable def o76:Obj:=⟨(.type "getset_descriptor"),none,(Data.fields #[(.str "__dict__" 589),(.ref 331),(.builtin "function.__dict__"),(.builtin "function.__dict__#set")]),#[]⟩
noncomputable def h16 (a0:Str) (a1:Nat) (a2:Str) (a3:Nat) (a4:Nat) (a5:Int) (a6:Int) (a7:Nat) (a8:Nat) (a9:Nat) (a10:Int) (a11:Nat):Obj:=⟨(.type "code"),none,(Data.fields #[(.str a0 a1),(.str a2 a3),(.str "/claim/cut.py" a4),(.int a5 0),(.int a6 0),(.int 0 0),(.int 0 0),(.int 3 0),(.ref a7),(.bool true),(.int 181 0),(.ref a8),.none,.none,.none,(.ref a9),(.int a10 0),(.int a5 0),(.str "/claim/cut.py" a11)]),#[]⟩
noncomputable def o84:Obj:=h16 "askers" 491 "Seat.askers" 492 493 70 1 247 248 249 494 495
noncomputable def o119:Obj:=h16 "_law_alike" 655 "_law_alike" 656 657 190 2 381 382 383 658 659
noncomputable def o134:Obj:=h16 "_law_names" 631 "_law_names" 632 633 166 2 364 365 366 634 635
noncomputable def o181:Obj:=h16 "_law_doors" 743 "_law_doors" 744 745 281 3 447 448 449 746 747
noncomputable def o190:Obj:=h16 "is_name" 421 "is_name" 422 423 37 1 186 187 188 424 425
noncomputable def o244:Obj:=h16 "_law_why" 749 "_law_why" 750 751 291 2 452 453 454 752 753
noncomputable def o252:Obj:=h16 "_law_kinds" 649 "_law_kinds" 650 651 181 1 376 377 378 652 653
noncomputable def o261:Obj:=h16 "_law_good_deeds" 680 "_law_good_deeds" 681 682 209 3 400 401 402 683 684
noncomputable def h17 (a0:Nat) (a1:Nat):Obj:=⟨(.type "getset_descriptor"),none,(Data.fields #[(.str "__weakref__" a0),(.ref a1),(.builtin "ExceptionGroup.__weakref__"),.none]),#[]⟩
noncomputable def o86:Obj:=h17 591 331
noncomputable def o108:Obj:=h17 209 31
noncomputable def o87:Obj:=⟨(.type "tuple"),none,(Data.seq #[(.type "ValueError")] 0),#[]⟩
noncomputable def o94:Obj:=⟨.none,none,(Data.fields #[(.int 1 0),(.int 0 0),(.ref 20),(.int 5 0),(.int 0 0),(.ref 27),(.int 7 0),(.int 0 0),(.ref 40),(.int 9 0),(.int 0 0),(.ref 52),(.int 11 0),(.int 0 0),(.ref 64),(.int 13 0),(.int 0 0),(.ref 76),(.int 15 0),(.int 0 0),(.ref 88),(.int 17 0),(.int 0 0),(.ref 100),(.int 19 0),(.int 0 0),(.ref 112),(.int 21 0),(.int 0 0),(.ref 124),(.int 23 0),(.int 0 0),(.ref 136),(.int 25 0),(.int 0 0),(.ref 148),(.int 27 0),(.int 0 0),(.ref 160),(.int 32 0),(.int 0 0),(.ref 179),(.int 37 0),(.int 0 0),(.ref 189),(.int 42 0),(.int 0 0),(.ref 196),(.int 45 0),(.int 0 0),(.ref 203),(.int 48 0),(.int 0 0),(.ref 210)]),#[]⟩
noncomputable def o104:Obj:=⟨.none,none,(Data.fields #[(.int 1 0),(.int 0 0),(.ref 20),(.int 5 0),(.int 0 0),(.ref 27),(.int 7 0),(.int 0 0),(.ref 40),(.int 9 0),(.int 0 0),(.ref 52),(.int 11 0),(.int 0 0),(.ref 64),(.int 13 0),(.int 0 0),(.ref 76)]),#[]⟩
noncomputable def o105:Obj:=⟨(.type "dict"),none,(Data.dict #[en P "__name__" 165 (.str "treeright.errors" 194),en P "__doc__" 166 .none,en P "__package__" 167 .none,en P "__loader__" 168 (.builtin "__main__.__loader__#opaque"),en P "__spec__" 169 .none,en P "__annotations__" 170 (.ref 6),en P "__builtins__" 171 (.ref 4),en P "__file__" 173 (.str "/claim/cut.py" 172),en P "__cached__" 174 .none,en P "_wall" 193 (.ref 21),en P "TreeError" 213 (.ref 31),en P "NoTree" 229 (.ref 44),en P "NoHouse" 245 (.ref 56),en P "NoSeat" 261 (.ref 68)] 14),#[]⟩
noncomputable def o106:Obj:=⟨(.type "type"),none,(Data.cls ⟨"TreeError",[(.type "ValueError")],[(.ref 31),(.type "ValueError"),(.type "Exception"),(.type "BaseException"),(.type "object")],30,"TreeError",true,[],[(.ref 44),(.ref 56),(.ref 68),(.ref 80),(.ref 92)],false,none,false⟩),#[(some (.ref 22)),none,(some (.str "TreeError" 196)),(some (.str "TreeError" 204)),(some (.builtin "ValueError.__new__")),(some (.bool true))]⟩
noncomputable def o107:Obj:=⟨(.type "dict"),none,(Data.dict #[en P "__name__" 165 (.str "treeright.errors" 194),en P "__doc__" 166 .none,en P "__package__" 167 .none,en P "__loader__" 168 (.builtin "__main__.__loader__#opaque"),en P "__spec__" 169 .none,en P "__annotations__" 170 (.ref 6),en P "__builtins__" 171 (.ref 4),en P "__file__" 173 (.str "/claim/cut.py" 172),en P "__cached__" 174 .none,en P "_wall" 193 (.ref 21),en P "TreeError" 213 (.ref 31),en P "NoTree" 229 (.ref 44),en P "NoHouse" 245 (.ref 56),en P "NoSeat" 261 (.ref 68),en P "NoAsker" 277 (.ref 80),en P "NoLetter" 293 (.ref 92),en P "NoRight" 309 (.ref 104),en P "NoRow" 325 (.ref 116),en P "NoTie" 341 (.ref 128),en P "Down" 357 (.ref 140),en P "NoMend" 373 (.ref 152)] 21),#[]⟩
noncomputable def o117:Obj:=⟨.none,none,(Data.fields #[(.int 1 0),(.int 0 0),(.ref 20),(.int 5 0),(.int 0 0),(.ref 27),(.int 7 0),(.int 0 0),(.ref 40),(.int 9 0),(.int 0 0),(.ref 52),(.int 11 0),(.int 0 0),(.ref 64),(.int 13 0),(.int 0 0),(.ref 76),(.int 15 0),(.int 0 0),(.ref 88),(.int 17 0),(.int 0 0),(.ref 100),(.int 19 0),(.int 0 0),(.ref 112),(.int 21 0),(.int 0 0),(.ref 124),(.int 23 0),(.int 0 0),(.ref 136),(.int 25 0),(.int 0 0),(.ref 148),(.int 27 0),(.int 0 0),(.ref 160),(.int 32 0),(.int 0 0),(.ref 179),(.int 37 0),(.int 0 0),(.ref 189),(.int 42 0),(.int 0 0),(.ref 196),(.int 45 0),(.int 0 0),(.ref 203),(.int 48 0),(.int 0 0),(.ref 210),(.int 148 0),(.int 0 0),(.ref 341),(.int 152 0),(.int 0 0),(.ref 348),(.int 157 0),(.int 0 0),(.ref 355),(.int 159 0),(.int 0 0),(.ref 362),(.int 166 0),(.int 0 0),(.ref 367),(.int 171 0),(.int 0 0),(.ref 374),(.int 181 0),(.int 0 0),(.ref 379),(.int 190 0),(.int 0 0),(.ref 384),(.int 198 0),(.int 0 0),(.ref 391),(.int 200 0),(.int 0 0),(.ref 398),(.int 209 0),(.int 0 0),(.ref 403),(.int 219 0),(.int 0 0),(.ref 410),(.int 229 0),(.int 0 0),(.ref 417)]),#[]⟩
noncomputable def o120:Obj:=⟨.none,none,(Data.fields #[(.int 1 0),(.int 0 0),(.ref 20),(.int 5 0),(.int 0 0),(.ref 27),(.int 7 0),(.int 0 0),(.ref 40),(.int 9 0),(.int 0 0),(.ref 52),(.int 11 0),(.int 0 0),(.ref 64),(.int 13 0),(.int 0 0),(.ref 76),(.int 15 0),(.int 0 0),(.ref 88),(.int 17 0),(.int 0 0),(.ref 100),(.int 19 0),(.int 0 0),(.ref 112),(.int 21 0),(.int 0 0),(.ref 124),(.int 23 0),(.int 0 0),(.ref 136),(.int 25 0),(.int 0 0),(.ref 148),(.int 27 0),(.int 0 0),(.ref 160)]),#[]⟩
noncomputable def h18 (a0:Str) (a1:Nat) (a2:Str) (a3:Nat) (a4:Str) (a5:Nat) (a6:Str) (a7:Nat) (a8:Str) (a9:Nat) (a10:Str) (a11:Nat):Obj:=⟨(.type "tuple"),none,(Data.seq #[(.str a0 a1),(.str a2 a3),(.str a4 a5),(.str a6 a7),(.str a8 a9),(.str a10 a11)] 0),#[]⟩
noncomputable def o126:Obj:=h18 "_law_cell" 671 "_law_source" 672 "_law_same" 673 "_law_many" 674 "_law_houses" 675 "_law_askers" 676
noncomputable def o265:Obj:=h18 "_law_source" 640 "_law_name" 641 "_law_way" 642 "_law_some" 643 "_law_signs" 644 "_law_at" 645
noncomputable def o129:Obj:=⟨(.type "dict"),none,(Data.dict #[en P "__name__" 165 (.str "treeright.errors" 194),en P "__doc__" 166 .none,en P "__package__" 167 .none,en P "__loader__" 168 (.builtin "__main__.__loader__#opaque"),en P "__spec__" 169 .none,en P "__annotations__" 170 (.ref 6),en P "__builtins__" 171 (.ref 4),en P "__file__" 173 (.str "/claim/cut.py" 172),en P "__cached__" 174 .none,en P "_wall" 193 (.ref 21),en P "TreeError" 213 (.ref 31)] 11),#[]⟩
noncomputable def h19 (a0:Int) (a1:Int) (a2:Nat) (a3:Int) (a4:Nat) (a5:Int) (a6:Nat) (a7:Int) (a8:Nat) (a9:Int) (a10:Nat) (a11:Int) (a12:Nat) (a13:Int) (a14:Nat) (a15:Int) (a16:Nat) (a17:Int) (a18:Nat) (a19:Int) (a20:Nat) (a21:Int) (a22:Nat) (a23:Int) (a24:Nat) (a25:Int) (a26:Nat) (a27:Int) (a28:Nat) (a29:Int) (a30:Nat) (a31:Int) (a32:Nat) (a33:Int) (a34:Nat):Obj:=⟨.none,none,(Data.fields #[(.int a0 0),(.int a1 0),(.ref a2),(.int a3 0),(.int a1 0),(.ref a4),(.int a5 0),(.int a1 0),(.ref a6),(.int a7 0),(.int a1 0),(.ref a8),(.int a9 0),(.int a1 0),(.ref a10),(.int a11 0),(.int a1 0),(.ref a12),(.int a13 0),(.int a1 0),(.ref a14),(.int a15 0),(.int a1 0),(.ref a16),(.int a17 0),(.int a1 0),(.ref a18),(.int a19 0),(.int a1 0),(.ref a20),(.int a21 0),(.int a1 0),(.ref a22),(.int a23 0),(.int a1 0),(.ref a24),(.int a25 0),(.int a1 0),(.ref a26),(.int a27 0),(.int a1 0),(.ref a28),(.int a29 0),(.int a1 0),(.ref a30),(.int a31 0),(.int a1 0),(.ref a32),(.int a33 0),(.int a1 0),(.ref a34)]),#[]⟩
noncomputable def o137:Obj:=h19 50 4 217 58 224 61 231 64 238 67 245 70 250 74 257 77 264 80 271 83 278 86 285 93 292 100 299 107 306 116 313 128 320 138 327
noncomputable def o285:Obj:=h19 1 0 20 5 27 7 40 9 52 11 64 13 76 15 88 17 100 19 112 21 124 23 136 25 148 27 160 32 179 37 189 42 196 45 203
noncomputable def o143:Obj:=⟨(.type "dict"),none,(Data.dict #[en P "__name__" 165 (.str "treeright.errors" 194),en P "__doc__" 166 .none,en P "__package__" 167 .none,en P "__loader__" 168 (.builtin "__main__.__loader__#opaque"),en P "__spec__" 169 .none,en P "__annotations__" 170 (.ref 6),en P "__builtins__" 171 (.ref 4),en P "__file__" 173 (.str "/claim/cut.py" 172),en P "__cached__" 174 .none,en P "_wall" 193 (.ref 21),en P "TreeError" 213 (.ref 31),en P "NoTree" 229 (.ref 44),en P "NoHouse" 245 (.ref 56),en P "NoSeat" 261 (.ref 68),en P "NoAsker" 277 (.ref 80),en P "NoLetter" 293 (.ref 92),en P "NoRight" 309 (.ref 104),en P "NoRow" 325 (.ref 116),en P "NoTie" 341 (.ref 128),en P "Down" 357 (.ref 140),en P "NoMend" 373 (.ref 152),en P "NoText" 398 (.ref 171)] 22),#[]⟩
noncomputable def o145:Obj:=⟨(.type "tuple"),none,(Data.seq #[(.str "_law_script" 758),(.str "_law_askers" 759),(.str "_law_houses" 760),(.str "_law_way" 761),(.str "_law_arrow" 762),(.str "_law_seat" 763),(.str "_law_state_here" 764),(.str "_law_cell" 765),(.str "_law_now" 766),(.str "_law_deeds" 767),(.str "_law_deed" 768),(.str "_law_kept" 769),(.str "_law_due" 770),(.str "_law_turn" 771)] 0),#[]⟩
noncomputable def o148:Obj:=⟨(.type "type"),none,(Data.cls ⟨"TreeError",[(.type "ValueError")],[(.ref 31),(.type "ValueError"),(.type "Exception"),(.type "BaseException"),(.type "object")],30,"TreeError",true,[],[(.ref 44),(.ref 56),(.ref 68),(.ref 80),(.ref 92),(.ref 104),(.ref 116),(.ref 128),(.ref 140),(.ref 152),(.ref 171)],false,none,false⟩),#[(some (.ref 22)),none,(some (.str "TreeError" 196)),(some (.str "TreeError" 204)),(some (.builtin "ValueError.__new__")),(some (.bool true))]⟩
noncomputable def o156:Obj:=⟨.none,none,(Data.fields #[(.int 1 0),(.int 0 0),(.ref 20),(.int 5 0),(.int 0 0),(.ref 27),(.int 7 0),(.int 0 0),(.ref 40),(.int 9 0),(.int 0 0),(.ref 52),(.int 11 0),(.int 0 0),(.ref 64),(.int 13 0),(.int 0 0),(.ref 76),(.int 15 0),(.int 0 0),(.ref 88),(.int 17 0),(.int 0 0),(.ref 100)]),#[]⟩
noncomputable def o167:Obj:=⟨.none,none,(Data.fields #[(.int 29 0),(.int 4 0),(.ref 167)]),#[]⟩
noncomputable def o170:Obj:=⟨(.type "dict"),none,(Data.dict #[en P "__name__" 165 (.str "treeright.errors" 194),en P "__doc__" 166 .none,en P "__package__" 167 .none,en P "__loader__" 168 (.builtin "__main__.__loader__#opaque"),en P "__spec__" 169 .none,en P "__annotations__" 170 (.ref 6),en P "__builtins__" 171 (.ref 4),en P "__file__" 173 (.str "/claim/cut.py" 172),en P "__cached__" 174 .none,en P "_wall" 193 (.ref 21),en P "TreeError" 213 (.ref 31),en P "NoTree" 229 (.ref 44),en P "NoHouse" 245 (.ref 56),en P "NoSeat" 261 (.ref 68),en P "NoAsker" 277 (.ref 80)] 15),#[]⟩
noncomputable def o187:Obj:=⟨(.type "dict"),none,(Data.dict #[en P "__name__" 165 (.str "treeright.errors" 194),en P "__doc__" 166 .none,en P "__package__" 167 .none,en P "__loader__" 168 (.builtin "__main__.__loader__#opaque"),en P "__spec__" 169 .none,en P "__annotations__" 170 (.ref 6),en P "__builtins__" 171 (.ref 4),en P "__file__" 173 (.str "/claim/cut.py" 172),en P "__cached__" 174 .none,en P "_wall" 193 (.ref 21),en P "TreeError" 213 (.ref 31),en P "NoTree" 229 (.ref 44),en P "NoHouse" 245 (.ref 56),en P "NoSeat" 261 (.ref 68),en P "NoAsker" 277 (.ref 80),en P "NoLetter" 293 (.ref 92),en P "NoRight" 309 (.ref 104),en P "NoRow" 325 (.ref 116),en P "NoTie" 341 (.ref 128),en P "Down" 357 (.ref 140)] 20),#[]⟩
noncomputable def o188:Obj:=⟨.none,none,(Data.fields #[(.int 1 0),(.int 0 0),(.ref 20),(.int 5 0),(.int 0 0),(.ref 27),(.int 7 0),(.int 0 0),(.ref 40),(.int 9 0),(.int 0 0),(.ref 52),(.int 11 0),(.int 0 0),(.ref 64),(.int 13 0),(.int 0 0),(.ref 76),(.int 15 0),(.int 0 0),(.ref 88),(.int 17 0),(.int 0 0),(.ref 100),(.int 19 0),(.int 0 0),(.ref 112),(.int 21 0),(.int 0 0),(.ref 124),(.int 23 0),(.int 0 0),(.ref 136),(.int 25 0),(.int 0 0),(.ref 148)]),#[]⟩
noncomputable def o191:Obj:=⟨(.type "dict"),none,(Data.dict #[en P "__name__" 165 (.str "treeright.errors" 194),en P "__doc__" 166 .none,en P "__package__" 167 .none,en P "__loader__" 168 (.builtin "__main__.__loader__#opaque"),en P "__spec__" 169 .none,en P "__annotations__" 170 (.ref 6),en P "__builtins__" 171 (.ref 4),en P "__file__" 173 (.str "/claim/cut.py" 172),en P "__cached__" 174 .none,en P "_wall" 193 (.ref 21),en P "TreeError" 213 (.ref 31),en P "NoTree" 229 (.ref 44)] 12),#[]⟩
noncomputable def o196:Obj:=⟨(.type "type"),none,(Data.cls ⟨"TreeError",[(.type "ValueError")],[(.ref 31),(.type "ValueError"),(.type "Exception"),(.type "BaseException"),(.type "object")],30,"TreeError",true,[],[(.ref 44),(.ref 56)],false,none,false⟩),#[(some (.ref 22)),none,(some (.str "TreeError" 196)),(some (.str "TreeError" 204)),(some (.builtin "ValueError.__new__")),(some (.bool true))]⟩
noncomputable def o202:Obj:=⟨(.type "dict"),none,(Data.dict #[en P "__name__" 165 (.str "treeright.seats" 427),en P "__doc__" 166 .none,en P "__package__" 167 .none,en P "__loader__" 168 (.builtin "__main__.__loader__#opaque"),en P "__spec__" 169 .none,en P "__annotations__" 170 (.ref 6),en P "__builtins__" 171 (.ref 4),en P "__file__" 173 (.str "/claim/cut.py" 172),en P "__cached__" 174 .none,en P "_wall" 193 (.ref 21),en P "TreeError" 213 (.ref 31),en P "NoTree" 229 (.ref 44),en P "NoHouse" 245 (.ref 56),en P "NoSeat" 261 (.ref 68),en P "NoAsker" 277 (.ref 80),en P "NoLetter" 293 (.ref 92),en P "NoRight" 309 (.ref 104),en P "NoRow" 325 (.ref 116),en P "NoTie" 341 (.ref 128),en P "Down" 357 (.ref 140),en P "NoMend" 373 (.ref 152),en P "NoText" 398 (.ref 171),en P "NoLine" 414 (.ref 183),en P "LETTERS" 418 (.str "abcdefghijklmnopqrstuvwxyz" 417),en P "LONGEST_NAME" 420 (.int 8 419),en P "is_name" 426 (.ref 190),en P "check_asker" 435 (.ref 197),en P "check_house" 442 (.ref 204),en P "Seat" 595 (.ref 331)] 29),#[]⟩
noncomputable def o208:Obj:=⟨.none,none,(Data.fields #[(.int 1 0),(.int 0 0),(.ref 20),(.int 5 0),(.int 0 0),(.ref 27),(.int 7 0),(.int 0 0),(.ref 40),(.int 9 0),(.int 0 0),(.ref 52),(.int 11 0),(.int 0 0),(.ref 64)]),#[]⟩
noncomputable def o209:Obj:=⟨(.type "dict"),none,(Data.dict #[en P "__name__" 165 (.str "treeright.errors" 194),en P "__doc__" 166 .none,en P "__package__" 167 .none,en P "__loader__" 168 (.builtin "__main__.__loader__#opaque"),en P "__spec__" 169 .none,en P "__annotations__" 170 (.ref 6),en P "__builtins__" 171 (.ref 4),en P "__file__" 173 (.str "/claim/cut.py" 172),en P "__cached__" 174 .none,en P "_wall" 193 (.ref 21),en P "TreeError" 213 (.ref 31),en P "NoTree" 229 (.ref 44),en P "NoHouse" 245 (.ref 56),en P "NoSeat" 261 (.ref 68),en P "NoAsker" 277 (.ref 80),en P "NoLetter" 293 (.ref 92),en P "NoRight" 309 (.ref 104),en P "NoRow" 325 (.ref 116)] 18),#[]⟩
noncomputable def o211:Obj:=⟨(.type "type"),none,(Data.cls ⟨"TreeError",[(.type "ValueError")],[(.ref 31),(.type "ValueError"),(.type "Exception"),(.type "BaseException"),(.type "object")],30,"TreeError",true,[],[(.ref 44),(.ref 56),(.ref 68),(.ref 80),(.ref 92),(.ref 104),(.ref 116),(.ref 128),(.ref 140)],false,none,false⟩),#[(some (.ref 22)),none,(some (.str "TreeError" 196)),(some (.str "TreeError" 204)),(some (.builtin "ValueError.__new__")),(some (.bool true))]⟩
noncomputable def o216:Obj:=⟨(.type "type"),none,(Data.cls ⟨"TreeError",[(.type "ValueError")],[(.ref 31),(.type "ValueError"),(.type "Exception"),(.type "BaseException"),(.type "object")],30,"TreeError",true,[],[(.ref 44),(.ref 56),(.ref 68),(.ref 80),(.ref 92),(.ref 104),(.ref 116),(.ref 128),(.ref 140),(.ref 152)],false,none,false⟩),#[(some (.ref 22)),none,(some (.str "TreeError" 196)),(some (.str "TreeError" 204)),(some (.builtin "ValueError.__new__")),(some (.bool true))]⟩
noncomputable def o219:Obj:=⟨(.type "type"),none,(Data.cls ⟨"TreeError",[(.type "ValueError")],[(.ref 31),(.type "ValueError"),(.type "Exception"),(.type "BaseException"),(.type "object")],30,"TreeError",true,[],[(.ref 44)],false,none,false⟩),#[(some (.ref 22)),none,(some (.str "TreeError" 196)),(some (.str "TreeError" 204)),(some (.builtin "ValueError.__new__")),(some (.bool true))]⟩
noncomputable def o220:Obj:=⟨(.type "dict"),none,(Data.dict #[en P "__module__" 450 (.str "treeright.seats" 427),en P "__qualname__" 452 (.str "Seat" 451),en P "__firstlineno__" 454 (.int 48 453),en P "__init__" 462 (.ref 218),en P "arrow" 469 (.ref 225),en P "row" 476 (.ref 232),en P "inside" 483 (.ref 239),en P "has_asked" 490 (.ref 246),en P "askers" 496 (.ref 251),en P "crowd" 503 (.ref 258),en P "twin" 510 (.ref 265),en P "state" 517 (.ref 272),en P "settle" 525 (.ref 279),en P "want" 533 (.ref 286)] 14),#[]⟩
noncomputable def o228:Obj:=⟨(.type "dict"),none,(Data.dict #[en P "__name__" 165 (.str "treeright.errors" 194),en P "__doc__" 166 .none,en P "__package__" 167 .none,en P "__loader__" 168 (.builtin "__main__.__loader__#opaque"),en P "__spec__" 169 .none,en P "__annotations__" 170 (.ref 6),en P "__builtins__" 171 (.ref 4),en P "__file__" 173 (.str "/claim/cut.py" 172),en P "__cached__" 174 .none,en P "_wall" 193 (.ref 21),en P "TreeError" 213 (.ref 31),en P "NoTree" 229 (.ref 44),en P "NoHouse" 245 (.ref 56),en P "NoSeat" 261 (.ref 68),en P "NoAsker" 277 (.ref 80),en P "NoLetter" 293 (.ref 92),en P "NoRight" 309 (.ref 104),en P "NoRow" 325 (.ref 116),en P "NoTie" 341 (.ref 128)] 19),#[]⟩
noncomputable def o236:Obj:=⟨(.type "dict"),none,(Data.dict #[en P "__name__" 165 (.str "law_treeright_k15_refused_at_all_doors" 596),en P "__doc__" 166 .none,en P "__package__" 167 .none,en P "__loader__" 168 (.builtin "__main__.__loader__#opaque"),en P "__spec__" 169 .none,en P "__annotations__" 170 (.ref 6),en P "__builtins__" 171 (.ref 4),en P "__file__" 173 (.str "/claim/cut.py" 172),en P "__cached__" 174 .none,en P "_wall" 193 (.ref 21),en P "TreeError" 213 (.ref 31),en P "NoTree" 229 (.ref 44),en P "NoHouse" 245 (.ref 56),en P "NoSeat" 261 (.ref 68),en P "NoAsker" 277 (.ref 80),en P "NoLetter" 293 (.ref 92),en P "NoRight" 309 (.ref 104),en P "NoRow" 325 (.ref 116),en P "NoTie" 341 (.ref 128),en P "Down" 357 (.ref 140),en P "NoMend" 373 (.ref 152),en P "NoText" 398 (.ref 171),en P "NoLine" 414 (.ref 183),en P "LETTERS" 418 (.str "abcdefghijklmnopqrstuvwxyz" 417),en P "LONGEST_NAME" 420 (.int 8 419),en P "is_name" 426 (.ref 190),en P "check_asker" 435 (.ref 197),en P "check_house" 442 (.ref 204),en P "Seat" 595 (.ref 331),en P "_law_cell_at" 605 (.ref 342),en P "_law_mixed" 614 (.ref 349),en P "_law_digits" 621 (.ref 356),en P "_law_next" 630 (.ref 363),en P "_law_names" 636 (.ref 368),en P "_law_odd" 648 (.ref 375),en P "_law_kinds" 654 (.ref 380),en P "_law_alike" 660 (.ref 385),en P "_law_told" 667 (.ref 392),en P "_law_pools" 679 (.ref 399),en P "_law_good_deeds" 685 (.ref 404),en P "_law_put" 693 (.ref 411),en P "_law_state" 700 (.ref 418)] 42),#[]⟩
noncomputable def o237:Obj:=⟨.none,none,(Data.fields #[(.int 1 0),(.int 0 0),(.ref 20),(.int 5 0),(.int 0 0),(.ref 27),(.int 7 0),(.int 0 0),(.ref 40),(.int 9 0),(.int 0 0),(.ref 52),(.int 11 0),(.int 0 0),(.ref 64),(.int 13 0),(.int 0 0),(.ref 76),(.int 15 0),(.int 0 0),(.ref 88),(.int 17 0),(.int 0 0),(.ref 100),(.int 19 0),(.int 0 0),(.ref 112),(.int 21 0),(.int 0 0),(.ref 124)]),#[]⟩
noncomputable def o238:Obj:=⟨.none,none,(Data.fields #[(.int 1 0),(.int 0 0),(.ref 20),(.int 5 0),(.int 0 0),(.ref 27),(.int 7 0),(.int 0 0),(.ref 40),(.int 9 0),(.int 0 0),(.ref 52),(.int 11 0),(.int 0 0),(.ref 64),(.int 13 0),(.int 0 0),(.ref 76),(.int 15 0),(.int 0 0),(.ref 88)]),#[]⟩
noncomputable def o239:Obj:=⟨(.type "dict"),none,(Data.dict #[en P "__module__" 450 (.str "treeright.seats" 427),en P "__qualname__" 452 (.str "Seat" 451),en P "__firstlineno__" 454 (.int 48 453),en P "__init__" 462 (.ref 218),en P "arrow" 469 (.ref 225),en P "row" 476 (.ref 232),en P "inside" 483 (.ref 239),en P "has_asked" 490 (.ref 246),en P "askers" 496 (.ref 251),en P "crowd" 503 (.ref 258),en P "twin" 510 (.ref 265),en P "state" 517 (.ref 272),en P "settle" 525 (.ref 279),en P "want" 533 (.ref 286),en P "leave" 541 (.ref 293),en P "done" 549 (.ref 300),en P "ask" 557 (.ref 307),en P "come" 566 (.ref 314),en P "move_on" 573 (.ref 321),en P "serve_first" 583 (.ref 328),en P "__static_attributes__" 588 (.ref 329)] 21),#[]⟩
noncomputable def o262:Obj:=⟨.none,none,(Data.fields #[(.int 1 0),(.int 0 0),(.ref 20),(.int 5 0),(.int 0 0),(.ref 27),(.int 7 0),(.int 0 0),(.ref 40),(.int 9 0),(.int 0 0),(.ref 52)]),#[]⟩
noncomputable def o270:Obj:=⟨(.type "dict"),none,(Data.dict #[en P "__module__" 450 (.str "treeright.seats" 427),en P "__firstlineno__" 454 (.int 48 453),en P "__init__" 462 (.ref 218),en P "arrow" 469 (.ref 225),en P "row" 476 (.ref 232),en P "inside" 483 (.ref 239),en P "has_asked" 490 (.ref 246),en P "askers" 496 (.ref 251),en P "crowd" 503 (.ref 258),en P "twin" 510 (.ref 265),en P "state" 517 (.ref 272),en P "settle" 525 (.ref 279),en P "want" 533 (.ref 286),en P "leave" 541 (.ref 293),en P "done" 549 (.ref 300),en P "ask" 557 (.ref 307),en P "come" 566 (.ref 314),en P "move_on" 573 (.ref 321),en P "serve_first" 583 (.ref 328),en P "__static_attributes__" 588 (.ref 329),en P "__dict__" 590 (.ref 332),en P "__weakref__" 592 (.ref 333),en P "__doc__" 593 .none] 4),#[]⟩
noncomputable def o278:Obj:=⟨(.type "type"),none,(Data.cls ⟨"TreeError",[(.type "ValueError")],[(.ref 31),(.type "ValueError"),(.type "Exception"),(.type "BaseException"),(.type "object")],30,"TreeError",true,[],[],false,none,false⟩),#[(some (.ref 22)),none,(some (.str "TreeError" 196)),(some (.str "TreeError" 204)),(some (.builtin "ValueError.__new__")),(some (.bool true))]⟩
noncomputable def o283:Obj:=⟨(.type "dict"),none,(Data.dict #[en P "__name__" 165 (.str "treeright.errors" 194),en P "__doc__" 166 .none,en P "__package__" 167 .none,en P "__loader__" 168 (.builtin "__main__.__loader__#opaque"),en P "__spec__" 169 .none,en P "__annotations__" 170 (.ref 6),en P "__builtins__" 171 (.ref 4),en P "__file__" 173 (.str "/claim/cut.py" 172),en P "__cached__" 174 .none,en P "_wall" 193 (.ref 21),en P "TreeError" 213 (.ref 31),en P "NoTree" 229 (.ref 44),en P "NoHouse" 245 (.ref 56)] 13),#[]⟩
noncomputable def o288:Obj:=⟨(.type "type"),none,(Data.cls ⟨"Seat",[(.type "object")],[(.ref 331),(.type "object")],330,"Seat",true,[],[],false,none,false⟩),#[none,none,(some (.str "Seat" 443)),(some (.str "Seat" 451)),(some (.builtin "object.__new__")),(some (.bool true))]⟩
noncomputable def o292:Obj:=⟨.none,none,(Data.fields #[(.int 1 0),(.int 0 0),(.ref 20),(.int 5 0),(.int 0 0),(.ref 27),(.int 7 0),(.int 0 0),(.ref 40),(.int 9 0),(.int 0 0),(.ref 52),(.int 11 0),(.int 0 0),(.ref 64),(.int 13 0),(.int 0 0),(.ref 76),(.int 15 0),(.int 0 0),(.ref 88),(.int 17 0),(.int 0 0),(.ref 100),(.int 19 0),(.int 0 0),(.ref 112)]),#[]⟩
noncomputable def o299:Obj:=⟨(.type "tuple"),none,(Data.seq #[(.str "_law_state_here" 713),(.str "_law_deed" 714),(.str "_law_word" 715),(.str "_law_name" 716),(.str "_law_waits" 717),(.str "_law_inside" 718),(.str "_law_good" 719)] 0),#[]⟩
noncomputable def o305:Obj:=⟨.none,none,(Data.fields #[(.int 1 0),(.int 0 0),(.ref 20),(.int 5 0),(.int 0 0),(.ref 27),(.int 7 0),(.int 0 0),(.ref 40),(.int 9 0),(.int 0 0),(.ref 52),(.int 11 0),(.int 0 0),(.ref 64),(.int 13 0),(.int 0 0),(.ref 76),(.int 15 0),(.int 0 0),(.ref 88),(.int 17 0),(.int 0 0),(.ref 100),(.int 19 0),(.int 0 0),(.ref 112),(.int 21 0),(.int 0 0),(.ref 124),(.int 23 0),(.int 0 0),(.ref 136),(.int 25 0),(.int 0 0),(.ref 148),(.int 27 0),(.int 0 0),(.ref 160),(.int 32 0),(.int 0 0),(.ref 179),(.int 37 0),(.int 0 0),(.ref 189),(.int 42 0),(.int 0 0),(.ref 196),(.int 45 0),(.int 0 0),(.ref 203),(.int 48 0),(.int 0 0),(.ref 210),(.int 148 0),(.int 0 0),(.ref 341),(.int 152 0),(.int 0 0),(.ref 348),(.int 157 0),(.int 0 0),(.ref 355),(.int 159 0),(.int 0 0),(.ref 362),(.int 166 0),(.int 0 0),(.ref 367),(.int 171 0),(.int 0 0),(.ref 374),(.int 181 0),(.int 0 0),(.ref 379),(.int 190 0),(.int 0 0),(.ref 384),(.int 198 0),(.int 0 0),(.ref 391),(.int 200 0),(.int 0 0),(.ref 398),(.int 209 0),(.int 0 0),(.ref 403),(.int 219 0),(.int 0 0),(.ref 410),(.int 229 0),(.int 0 0),(.ref 417),(.int 231 0),(.int 0 0),(.ref 424),(.int 246 0),(.int 0 0),(.ref 431),(.int 259 0),(.int 0 0),(.ref 438),(.int 275 0),(.int 0 0),(.ref 445),(.int 281 0),(.int 0 0),(.ref 450),(.int 291 0),(.int 0 0),(.ref 455),(.int 297 0),(.int 0 0),(.ref 462)]),#[]⟩
noncomputable def o307:Obj:=⟨(.type "dict"),none,(Data.dict #[en P "__name__" 165 (.str "law_treeright_k15_refused_at_all_doors" 596),en P "__doc__" 166 .none,en P "__package__" 167 .none,en P "__loader__" 168 (.builtin "__main__.__loader__#opaque"),en P "__spec__" 169 .none,en P "__annotations__" 170 (.ref 6),en P "__builtins__" 171 (.ref 4),en P "__file__" 173 (.str "/claim/cut.py" 172),en P "__cached__" 174 .none,en P "_wall" 193 (.ref 21),en P "TreeError" 213 (.ref 31),en P "NoTree" 229 (.ref 44),en P "NoHouse" 245 (.ref 56),en P "NoSeat" 261 (.ref 68),en P "NoAsker" 277 (.ref 80),en P "NoLetter" 293 (.ref 92),en P "NoRight" 309 (.ref 104),en P "NoRow" 325 (.ref 116),en P "NoTie" 341 (.ref 128),en P "Down" 357 (.ref 140),en P "NoMend" 373 (.ref 152),en P "NoText" 398 (.ref 171),en P "NoLine" 414 (.ref 183),en P "LETTERS" 418 (.str "abcdefghijklmnopqrstuvwxyz" 417),en P "LONGEST_NAME" 420 (.int 8 419),en P "is_name" 426 (.ref 190),en P "check_asker" 435 (.ref 197),en P "check_house" 442 (.ref 204),en P "Seat" 595 (.ref 331),en P "_law_cell_at" 605 (.ref 342),en P "_law_mixed" 614 (.ref 349),en P "_law_digits" 621 (.ref 356),en P "_law_next" 630 (.ref 363),en P "_law_names" 636 (.ref 368),en P "_law_odd" 648 (.ref 375),en P "_law_kinds" 654 (.ref 380),en P "_law_alike" 660 (.ref 385),en P "_law_told" 667 (.ref 392),en P "_law_pools" 679 (.ref 399),en P "_law_good_deeds" 685 (.ref 404),en P "_law_put" 693 (.ref 411),en P "_law_state" 700 (.ref 418),en P "_law_moved" 709 (.ref 425),en P "_law_bad" 722 (.ref 432),en P "_law_made" 732 (.ref 439),en P "_law_asked" 742 (.ref 446),en P "_law_doors" 748 (.ref 451),en P "_law_why" 754 (.ref 456),en P "law" 774 (.ref 463)] 49),#[]⟩
noncomputable def o311:Obj:=⟨(.type "type"),none,(Data.cls ⟨"TreeError",[(.type "ValueError")],[(.ref 31),(.type "ValueError"),(.type "Exception"),(.type "BaseException"),(.type "object")],30,"TreeError",true,[],[(.ref 44),(.ref 56),(.ref 68),(.ref 80)],false,none,false⟩),#[(some (.ref 22)),none,(some (.str "TreeError" 196)),(some (.str "TreeError" 204)),(some (.builtin "ValueError.__new__")),(some (.bool true))]⟩
noncomputable def o315:Obj:=⟨(.type "dict"),none,(Data.dict #[en P "__name__" 165 (.str "treeright.errors" 194),en P "__doc__" 166 .none,en P "__package__" 167 .none,en P "__loader__" 168 (.builtin "__main__.__loader__#opaque"),en P "__spec__" 169 .none,en P "__annotations__" 170 (.ref 6),en P "__builtins__" 171 (.ref 4),en P "__file__" 173 (.str "/claim/cut.py" 172),en P "__cached__" 174 .none,en P "_wall" 193 (.ref 21),en P "TreeError" 213 (.ref 31),en P "NoTree" 229 (.ref 44),en P "NoHouse" 245 (.ref 56),en P "NoSeat" 261 (.ref 68),en P "NoAsker" 277 (.ref 80),en P "NoLetter" 293 (.ref 92),en P "NoRight" 309 (.ref 104)] 17),#[]⟩
noncomputable def q0:BT:=N (boot_o_7 P) (N o0 (N o51 (N o11 (N (o74 P) L L) L) (N o58 L L)) (N o58 (N (o118 P) L L) (N o11 L L))) (N o56 (N o11 (N o58 L L) (N (o304 P) L L)) (N (o267 P) (N o11 L L) (N o58 L L)))
noncomputable def q1:BT:=N o0 (N o317 (N o58 (N (o212 P) L L) (N o11 L L)) (N o11 (N o58 L L) (N (o102 P) L L))) (N o149 (N (o291 P) (N o11 L L) (N o58 L L)) (N o58 (N (o313 P) L L) (N o11 L L)))
noncomputable def q2:BT:=N (boot_o_9 P) (N o284 (N o250 (N o40 (N o294 L L) L) (N (o26 P) L L)) (N (o207 P) (N o183 L L) (N o62 L L))) (N o0 (N o205 (N (o194 P) L L) (N o264 L L)) (N o243 (N o110 L L) (N (o109 P) L L)))
noncomputable def q3:BT:=N o171 (N o263 (N (o230 P) (N o127 L L) (N o184 L L)) (N o135 (N (o198 P) L L) (N o247 L L))) (N o0 (N o309 (N o158 L L) (N (o24 P) L L)) (N (o234 P) (N o168 L L) (N o38 L L)))
noncomputable def q4:BT:=N (boot_o_8 P) (N o11 (N o108 (N o178 (N o210 L L) L) (N o56 L L)) (N o56 (N o222 L L) (N o173 L L))) (N (o286 P) (N o136 (N o56 L L) (N o14 L L)) (N o279 (N o224 L L) (N o56 L L)))
noncomputable def q5:BT:=N o237 (N o172 (N o56 (N o282 L L) (N o223 L L)) (N o112 (N o56 L L) (N o48 L L))) (N o132 (N o15 (N o268 L L) (N o56 L L)) (N o56 (N o245 L L) (N o72 L L)))
noncomputable def q6:BT:=N (boot_o_10 P) (N o0 (N o44 (N o0 (N o97 L L) L) (N o0 L L)) (N o0 (N o201 L L) (N o0 L L))) (N o11 (N o0 (N o0 L L) (N o312 L L)) (N o71 (N o0 L L) (N o0 L L)))
noncomputable def q7:BT:=N o80 (N o87 (N o0 (N o240 L L) (N o0 L L)) (N o0 (N o0 L L) (N o131 L L))) (N (o29 P) (N o232 (N o0 L L) (N o0 L L)) (N o0 (N o241 L L) (N o0 L L)))
noncomputable def q8:BT:=N (boot_o_0 P) (N (boot_o_1 P) (N (o228 P) (q0 P) (q1 P)) (N (boot_o_5 P) (q2 P) (q3 P))) (N (boot_o_2 P) (N (boot_o_4 P) (q4 P) q5) (N (boot_o_6 P) (q6 P) (q7 P)))
noncomputable def t190 (P:Params):BT:=(q8 P)
noncomputable def q9:BT:=N (o191 P) (N (boot_o_7 P) (N o0 (N o219 L L) L) (N o56 (N o11 L L) L)) (N o0 (N o317 (N o58 L L) L) (N o149 (N (o291 P) L L) L))
noncomputable def q10:BT:=N (boot_o_5 P) (N (boot_o_9 P) (N o284 (N o250 L L) L) (N o0 (N o205 L L) L)) (N o171 (N o263 (N (o230 P) L L) L) (N o0 (N o309 L L) L))
noncomputable def q11:BT:=N (boot_o_4 P) (N (boot_o_8 P) (N o11 (N o108 L L) L) (N (o286 P) (N o136 L L) L)) (N o4 (N o172 (N o56 L L) L) (N o132 (N o15 L L) L))
noncomputable def q12:BT:=N (boot_o_6 P) (N (boot_o_10 P) (N o0 (N o44 L L) L) (N o11 (N o0 L L) L)) (N o80 (N o87 (N o0 L L) L) (N (o29 P) (N o232 L L) L))
noncomputable def t85 (P:Params):BT:=(N (boot_o_0 P) (N (boot_o_1 P) (q9 P) (q10 P)) (N (boot_o_2 P) (q11 P) (q12 P)))
noncomputable def q13:BT:=N (boot_o_7 P) (N o0 (N o216 (N o11 (N (o74 P) L L) L) (N o58 L L)) (N o58 (N (o118 P) (N o58 L L) L) (N o11 L L))) (N o56 (N o11 (N o58 (N o11 L L) L) (N (o304 P) L L)) (N (o267 P) (N o11 (N (o215 P) L L) L) (N o58 L L)))
noncomputable def q14:BT:=N o0 (N o317 (N o58 (N (o212 P) (N o58 L L) L) (N o11 L L)) (N o11 (N o58 (N o11 L L) L) (N (o102 P) L L))) (N o149 (N (o291 P) (N o11 (N (o73 P) L L) L) (N o58 L L)) (N o58 (N (o313 P) L L) (N o11 L L)))
noncomputable def q15:BT:=N (boot_o_9 P) (N o284 (N o250 (N o40 (N o294 L L) L) (N (o26 P) L L)) (N (o207 P) (N o183 (N (o77 P) L L) L) (N o62 L L))) (N o0 (N o205 (N (o194 P) (N o63 L L) L) (N o264 L L)) (N o243 (N o110 (N o293 L L) L) (N (o109 P) L L)))
noncomputable def q16:BT:=N o171 (N o263 (N (o230 P) (N o127 (N (o296 P) L L) L) (N o184 L L)) (N o135 (N (o198 P) (N o59 L L) L) (N o247 L L))) (N o0 (N o309 (N o158 (N o6 L L) L) (N (o24 P) L L)) (N (o234 P) (N o168 L L) (N o38 L L)))
noncomputable def q17:BT:=N (boot_o_8 P) (N o11 (N o108 (N o178 (N o210 L L) L) (N o56 L L)) (N o56 (N o222 (N o56 L L) L) (N o173 L L))) (N (o286 P) (N o136 (N o56 (N o314 L L) L) (N o14 L L)) (N o279 (N o224 (N o33 L L) L) (N o56 L L)))
noncomputable def q18:BT:=N o188 (N o172 (N o56 (N o282 (N o56 L L) L) (N o223 L L)) (N o112 (N o56 (N o290 L L) L) (N o48 L L))) (N o132 (N o15 (N o268 (N o93 L L) L) (N o56 L L)) (N o56 (N o245 L L) (N o72 L L)))
noncomputable def q19:BT:=N (boot_o_10 P) (N o0 (N o44 (N o0 (N o97 L L) L) (N o0 L L)) (N o0 (N o201 (N o0 L L) L) (N o0 L L))) (N o11 (N o0 (N o0 (N o0 L L) L) (N o312 L L)) (N o71 (N o0 (N o166 L L) L) (N o0 L L)))
noncomputable def q20:BT:=N o80 (N o87 (N o0 (N o240 (N o0 L L) L) (N o0 L L)) (N o0 (N o0 (N o0 L L) L) (N o131 L L))) (N (o29 P) (N o232 (N o0 (N o186 L L) L) (N o0 L L)) (N o0 (N o241 L L) (N o0 L L)))
noncomputable def q21:BT:=N (boot_o_0 P) (N (boot_o_1 P) (N (o107 P) (q13 P) (q14 P)) (N (boot_o_5 P) (q15 P) (q16 P))) (N (boot_o_2 P) (N (boot_o_4 P) (q17 P) q18) (N (boot_o_6 P) (q19 P) (q20 P)))
noncomputable def t220 (P:Params):BT:=(q21 P)
noncomputable def q22:BT:=N o0 (N o148 (N o11 (N (o74 P) L L) L) (N o58 (N o167 L L) L)) (N o58 (N (o118 P) (N o58 L L) L) (N o11 L L))
noncomputable def q23:BT:=N o56 (N o11 (N o58 (N o11 L L) L) (N (o304 P) (N o189 L L) L)) (N (o267 P) (N o11 (N (o215 P) L L) L) (N o58 L L))
noncomputable def q24:BT:=N o317 (N o58 (N (o212 P) (N o58 L L) L) (N o11 (N o11 L L) L)) (N o11 (N o58 (N o11 L L) L) (N (o102 P) L L))
noncomputable def q25:BT:=N o149 (N (o291 P) (N o11 (N (o73 P) L L) L) (N o58 (N o55 L L) L)) (N o58 (N (o313 P) (N o58 L L) L) (N o11 L L))
noncomputable def q26:BT:=N o284 (N o250 (N o40 (N o294 L L) L) (N (o26 P) (N o242 L L) L)) (N (o207 P) (N o183 (N (o77 P) L L) L) (N o62 L L))
noncomputable def q27:BT:=N o0 (N o205 (N (o194 P) (N o63 L L) L) (N o264 (N o199 L L) L)) (N o243 (N o110 (N o293 L L) L) (N (o109 P) L L))
noncomputable def q28:BT:=N o263 (N (o230 P) (N o127 (N (o296 P) L L) L) (N o184 (N o0 L L) L)) (N o135 (N (o198 P) (N o59 L L) L) (N o247 L L))
noncomputable def q29:BT:=N o0 (N o309 (N o158 (N o6 L L) L) (N (o24 P) (N o176 L L) L)) (N (o234 P) (N o168 (N (o75 P) L L) L) (N o38 L L))
noncomputable def q30:BT:=N (boot_o_1 P) (N (o143 P) (N (boot_o_7 P) (q22 P) (q23 P)) (N o0 (q24 P) (q25 P))) (N (boot_o_5 P) (N (boot_o_9 P) (q26 P) (q27 P)) (N o171 (q28 P) (q29 P)))
noncomputable def q31:BT:=N o11 (N o108 (N o178 (N o210 L L) L) (N o56 (N o235 L L) L)) (N o56 (N o222 (N o56 L L) L) (N o173 L L))
noncomputable def q32:BT:=N (o286 P) (N o136 (N o56 (N o314 L L) L) (N o14 (N o233 L L) L)) (N o279 (N o224 (N o33 L L) L) (N o56 L L))
noncomputable def q33:BT:=N o172 (N o56 (N o282 (N o56 L L) L) (N o223 (N o248 L L) L)) (N o112 (N o56 (N o290 L L) L) (N o48 L L))
noncomputable def q34:BT:=N o132 (N o15 (N o268 (N o93 L L) L) (N o56 (N o36 L L) L)) (N o56 (N o245 (N o56 L L) L) (N o72 L L))
noncomputable def q35:BT:=N o0 (N o44 (N o0 (N o97 L L) L) (N o0 (N o0 L L) L)) (N o0 (N o201 (N o0 L L) L) (N o0 L L))
noncomputable def q36:BT:=N o11 (N o0 (N o0 (N o0 L L) L) (N o312 (N (o197 P) L L) L)) (N o71 (N o0 (N o166 L L) L) (N o0 L L))
noncomputable def q37:BT:=N o87 (N o0 (N o240 (N o0 L L) L) (N o0 (N o246 L L) L)) (N o0 (N o0 (N o0 L L) L) (N o131 L L))
noncomputable def q38:BT:=N o80 q37 (N (o29 P) (N o232 (N o0 (N o186 L L) L) (N o0 L L)) (N o0 (N o241 (N o0 L L) L) (N o0 L L)))
noncomputable def q39:BT:=N (boot_o_2 P) (N (boot_o_4 P) (N (boot_o_8 P) q31 (q32 P)) (N o120 q33 q34)) (N (boot_o_6 P) (N (boot_o_10 P) q35 (q36 P)) (q38 P))
noncomputable def t242 (P:Params):BT:=(N (boot_o_0 P) (q30 P) (q39 P))
noncomputable def q40:BT:=N (boot_o_7 P) (N o0 (N o12 (N o11 L L) (N o58 L L)) (N o58 (N (o118 P) L L) (N o11 L L))) (N o56 (N o11 (N o58 L L) (N (o304 P) L L)) (N (o267 P) (N o11 L L) L))
noncomputable def q41:BT:=N o0 (N o317 (N o58 (N (o212 P) L L) (N o11 L L)) (N o11 (N o58 L L) (N (o102 P) L L))) (N o149 (N (o291 P) (N o11 L L) (N o58 L L)) (N o58 (N (o313 P) L L) L))
noncomputable def q42:BT:=N (boot_o_9 P) (N o284 (N o250 (N o40 L L) (N (o26 P) L L)) (N (o207 P) (N o183 L L) (N o62 L L))) (N o0 (N o205 (N (o194 P) L L) (N o264 L L)) (N o243 (N o110 L L) L))
noncomputable def q43:BT:=N o171 (N o263 (N (o230 P) (N o127 L L) (N o184 L L)) (N o135 (N (o198 P) L L) (N o247 L L))) (N o0 (N o309 (N o158 L L) (N (o24 P) L L)) (N (o234 P) (N o168 L L) L))
noncomputable def q44:BT:=N (boot_o_8 P) (N o11 (N o108 (N o178 L L) (N o56 L L)) (N o56 (N o222 L L) (N o173 L L))) (N (o286 P) (N o136 (N o56 L L) (N o14 L L)) (N o279 (N o224 L L) L))
noncomputable def q45:BT:=N o292 (N o172 (N o56 (N o282 L L) (N o223 L L)) (N o112 (N o56 L L) (N o48 L L))) (N o132 (N o15 (N o268 L L) (N o56 L L)) (N o56 (N o245 L L) L))
noncomputable def q46:BT:=N (boot_o_10 P) (N o0 (N o44 (N o0 L L) (N o0 L L)) (N o0 (N o201 L L) (N o0 L L))) (N o11 (N o0 (N o0 L L) (N o312 L L)) (N o71 (N o0 L L) L))
noncomputable def q47:BT:=N o80 (N o87 (N o0 (N o240 L L) (N o0 L L)) (N o0 (N o0 L L) (N o131 L L))) (N (o29 P) (N o232 (N o0 L L) (N o0 L L)) (N o0 (N o241 L L) L))
noncomputable def q48:BT:=N (boot_o_0 P) (N (boot_o_1 P) (N (o209 P) (q40 P) (q41 P)) (N (boot_o_5 P) (q42 P) (q43 P))) (N (boot_o_2 P) (N (boot_o_4 P) (q44 P) q45) (N (boot_o_6 P) (q46 P) (q47 P)))
noncomputable def t175 (P:Params):BT:=(q48 P)
noncomputable def q49:BT:=N o41 (N o11 (N (o74 P) (N o0 L L) (N o114 L L)) (N o0 (N o147 L L) (N o0 L L))) (N o58 (N o167 (N o0 L L) (N o0 L L)) (N o8 (N o11 L L) L))
noncomputable def q50:BT:=N o58 (N (o118 P) (N o58 (N o204 L L) (N o19 L L)) (N (o239 P) (N o193 L L) (N o160 L L))) (N o11 (N o56 (N o177 L L) (N o302 L L)) (N o46 (N o134 L L) L))
noncomputable def q51:BT:=N o11 (N o58 (N o11 (N o152 L L) (N o301 L L)) (N o11 (N o61 L L) (N o244 L L))) (N (o304 P) (N o189 (N o11 L L) (N o308 L L)) (N o17 (N o47 L L) L))
noncomputable def q52:BT:=N (o267 P) (N o11 (N (o215 P) (N o203 L L) (N o258 L L)) (N o0 (N o0 L L) L)) (N o58 (N o195 (N o0 L L) (N o18 L L)) (N o0 (N o221 L L) L))
noncomputable def q53:BT:=N o58 (N (o212 P) (N o58 (N o0 L L) (N o11 L L)) (N o175 (N o11 L L) (N o225 L L))) (N o11 (N o11 (N o255 L L) (N o0 L L)) (N o11 (N o123 L L) L))
noncomputable def q54:BT:=N o11 (N o58 (N o11 (N o128 L L) (N o261 L L)) (N o139 (N o0 L L) L)) (N (o102 P) (N o35 (N o91 L L) (N o229 L L)) (N o0 (N o265 L L) L))
noncomputable def q55:BT:=N (o291 P) (N o11 (N (o73 P) (N o11 L L) (N o126 L L)) (N o206 (N o288 L L) (N o145 L L))) (N o58 (N o55 (N o121 L L) (N o11 L L)) (N o169 (N o213 L L) L))
noncomputable def q56:BT:=N o58 (N (o313 P) (N o58 (N o0 L L) (N o253 L L)) (N o0 (N o154 L L) L)) (N o11 (N o11 (N o0 L L) (N o0 L L)) (N o96 (N o252 L L) L))
noncomputable def q57:BT:=N (o307 P) (N (boot_o_7 P) (N o0 (q49 P) (q50 P)) (N o56 (q51 P) (q52 P))) (N o0 (N o317 (q53 P) (q54 P)) (N o149 (q55 P) (q56 P)))
noncomputable def q58:BT:=N o250 (N o40 (N o294 (N o31 L L) (N o23 L L)) (N o200 (N o64 L L) (N o289 L L))) (N (o26 P) (N o242 (N o60 L L) (N o57 L L)) (N o130 (N o0 L L) L))
noncomputable def q59:BT:=N (o207 P) (N o183 (N (o77 P) (N o0 L L) (N o11 L L)) (N o137 (N o11 L L) L)) (N o62 (N o0 (N o39 L L) (N o0 L L)) (N o11 (N o0 L L) L))
noncomputable def q60:BT:=N o205 (N (o194 P) (N o63 (N o78 L L) (N o0 L L)) (N o0 (N o164 L L) (N o0 L L))) (N o264 (N o199 (N o0 L L) (N o274 L L)) (N o0 (N o146 L L) L))
noncomputable def q61:BT:=N o243 (N o110 (N o293 (N o11 L L) (N o65 L L)) (N o115 (N o251 L L) L)) (N (o109 P) (N o70 (N o150 L L) (N o11 L L)) (N o66 (N o11 L L) L))
noncomputable def q62:BT:=N (o230 P) (N o127 (N (o296 P) (N o67 L L) (N o0 L L)) (N o37 (N o0 L L) (N o11 L L))) (N o184 (N o0 (N o25 L L) (N o174 L L)) (N o0 (N o0 L L) L))
noncomputable def q63:BT:=N o135 (N (o198 P) (N o59 (N o140 L L) (N o0 L L)) (N o11 (N o81 L L) L)) (N o247 (N o0 (N o11 L L) (N o116 L L)) (N o43 (N o277 L L) L))
noncomputable def q64:BT:=N o309 (N o158 (N o6 (N o0 L L) (N o165 L L)) (N o0 (N o86 L L) (N o161 L L))) (N (o24 P) (N o176 (N o0 L L) (N o0 L L)) (N o249 (N o11 L L) L))
noncomputable def q65:BT:=N (o234 P) (N o168 (N (o75 P) (N o88 L L) (N o11 L L)) (N o99 (N o273 L L) L)) (N o38 (N o190 (N o159 L L) (N o276 L L)) (N o11 (N o0 L L) L))
noncomputable def q66:BT:=N (boot_o_5 P) (N (boot_o_9 P) (N o284 (q58 P) (q59 P)) (N o0 (q60 P) (q61 P))) (N o171 (N o263 (q62 P) (q63 P)) (N o0 (q64 P) (q65 P)))
noncomputable def q67:BT:=N o108 (N o178 (N o210 (N o162 L L) (N o119 L L)) (N o11 (N o281 L L) (N o11 L L))) (N o56 (N o235 (N o11 L L) (N o103 L L)) (N o82 (N o69 L L) L))
noncomputable def q68:BT:=N o56 (N o222 (N o56 (N o111 L L) (N o0 L L)) (N o0 (N o0 L L) L)) (N o173 (N (o192 P) (N o0 L L) (N o49 L L)) (N o0 (N o122 L L) L))
noncomputable def q69:BT:=N o136 (N o56 (N o314 (N o85 L L) (N o269 L L)) (N o300 (N o227 L L) (N o113 L L))) (N o14 (N o233 (N o54 L L) (N o83 L L)) (N o157 (N o0 L L) L))
noncomputable def q70:BT:=N o279 (N o224 (N o33 (N o0 L L) (N o0 L L)) (N o21 (N o11 L L) L)) (N o56 (N o133 (N o231 L L) (N o0 L L)) (N o11 (N o0 L L) L))
noncomputable def q71:BT:=N o56 (N o282 (N o56 (N o11 L L) (N o257 L L)) (N o141 (N o306 L L) (N o0 L L))) (N o223 (N o248 (N o287 L L) (N o11 L L)) (N o226 (N o20 L L) L))
noncomputable def q72:BT:=N o112 (N o56 (N o290 (N o0 L L) (N o153 L L)) (N o0 (N o27 L L) L)) (N o48 (N o256 (N o0 L L) (N o0 L L)) (N o34 (N o0 L L) L))
noncomputable def q73:BT:=N o15 (N o268 (N o93 (N o28 L L) (N o0 L L)) (N o2 (N o76 L L) (N o0 L L))) (N o56 (N o36 (N o280 L L) (N o299 L L)) (N o0 (N o0 L L) L))
noncomputable def q74:BT:=N o56 (N o245 (N o56 (N o10 L L) (N o0 L L)) (N o11 (N o79 L L) L)) (N o72 (N o185 (N o11 L L) (N o144 L L)) (N o0 (N o142 L L) L))
noncomputable def q75:BT:=N (boot_o_4 P) (N (boot_o_8 P) (N o11 q67 (q68 P)) (N (o286 P) q69 q70)) (N o305 (N o172 q71 q72) (N o132 q73 q74))
noncomputable def q76:BT:=N o44 (N o0 (N o97 (N o1 L L) (N o0 L L)) (N o0 (N o0 L L) (N o181 L L))) (N o0 (N o0 (N o0 L L) (N o298 L L)) (N o0 (N o316 L L) L))
noncomputable def q77:BT:=N o0 (N o201 (N o0 (N o11 L L) (N o90 L L)) (N o125 (N o98 L L) L)) (N o0 (N o11 (N o155 L L) (N o11 L L)) (N o217 (N o11 L L) L))
noncomputable def q78:BT:=N o0 (N o0 (N o0 (N o0 L L) (N o11 L L)) (N o180 (N (o270 P) L L) (N o11 L L))) (N o312 (N (o197 P) (N o42 L L) (N o0 L L)) (N o11 (N o151 L L) L))
noncomputable def q79:BT:=N o71 (N o0 (N o166 (N o32 L L) (N o214 L L)) (N o30 (N o0 L L) L)) (N o0 (N o0 (N o295 L L) (N o3 L L)) (N o84 (N o68 L L) L))
noncomputable def q80:BT:=N o0 (N o240 (N o0 (N o0 L L) (N o254 L L)) (N o0 (N o89 L L) (N o5 L L))) (N o0 (N o246 (N o0 L L) (N o0 L L)) (N o100 (N o11 L L) L))
noncomputable def q81:BT:=N o0 (N o0 (N o0 (N o101 L L) (N o11 L L)) (N o275 (N o271 L L) L)) (N o131 (N (o310 P) (N o163 L L) (N o22 L L)) (N o16 (N o297 L L) L))
noncomputable def q82:BT:=N o232 (N o0 (N o186 (N o92 L L) (N o218 L L)) (N o56 (N o266 L L) (N o272 L L))) (N o0 (N o58 (N o11 L L) (N o95 L L)) (N o50 (N o303 L L) L))
noncomputable def q83:BT:=N o0 (N o241 (N o0 (N o124 L L) (N o179 L L)) (N o0 (N o0 L L) L)) (N o0 (N o259 (N o0 L L) (N o138 L L)) (N o260 (N o11 L L) L))
noncomputable def q84:BT:=N (boot_o_6 P) (N (boot_o_10 P) (N o0 q76 q77) (N o11 (q78 P) q79)) (N o80 (N o87 q80 (q81 P)) (N (o29 P) q82 q83))
noncomputable def t630 (P:Params):BT:=(N (boot_o_0 P) (N (boot_o_1 P) (q57 P) (q66 P)) (N (boot_o_2 P) (q75 P) (q84 P)))
noncomputable def q85:BT:=N (boot_o_7 P) (N o0 (N o211 (N o11 (N (o74 P) L L) L) (N o58 L L)) (N o58 (N (o118 P) L L) (N o11 L L))) (N o56 (N o11 (N o58 (N o11 L L) L) (N (o304 P) L L)) (N (o267 P) (N o11 L L) (N o58 L L)))
noncomputable def q86:BT:=N o0 (N o317 (N o58 (N (o212 P) (N o58 L L) L) (N o11 L L)) (N o11 (N o58 L L) (N (o102 P) L L))) (N o149 (N (o291 P) (N o11 (N (o73 P) L L) L) (N o58 L L)) (N o58 (N (o313 P) L L) (N o11 L L)))
noncomputable def q87:BT:=N (boot_o_9 P) (N o284 (N o250 (N o40 (N o294 L L) L) (N (o26 P) L L)) (N (o207 P) (N o183 L L) (N o62 L L))) (N o0 (N o205 (N (o194 P) (N o63 L L) L) (N o264 L L)) (N o243 (N o110 L L) (N (o109 P) L L)))
noncomputable def q88:BT:=N o171 (N o263 (N (o230 P) (N o127 (N (o296 P) L L) L) (N o184 L L)) (N o135 (N (o198 P) L L) (N o247 L L))) (N o0 (N o309 (N o158 (N o6 L L) L) (N (o24 P) L L)) (N (o234 P) (N o168 L L) (N o38 L L)))
noncomputable def q89:BT:=N (boot_o_8 P) (N o11 (N o108 (N o178 (N o210 L L) L) (N o56 L L)) (N o56 (N o222 L L) (N o173 L L))) (N (o286 P) (N o136 (N o56 (N o314 L L) L) (N o14 L L)) (N o279 (N o224 L L) (N o56 L L)))
noncomputable def q90:BT:=N o182 (N o172 (N o56 (N o282 (N o56 L L) L) (N o223 L L)) (N o112 (N o56 L L) (N o48 L L))) (N o132 (N o15 (N o268 (N o93 L L) L) (N o56 L L)) (N o56 (N o245 L L) (N o72 L L)))
noncomputable def q91:BT:=N (boot_o_10 P) (N o0 (N o44 (N o0 (N o97 L L) L) (N o0 L L)) (N o0 (N o201 L L) (N o0 L L))) (N o11 (N o0 (N o0 (N o0 L L) L) (N o312 L L)) (N o71 (N o0 L L) (N o0 L L)))
noncomputable def q92:BT:=N o80 (N o87 (N o0 (N o240 (N o0 L L) L) (N o0 L L)) (N o0 (N o0 L L) (N o131 L L))) (N (o29 P) (N o232 (N o0 (N o186 L L) L) (N o0 L L)) (N o0 (N o241 L L) (N o0 L L)))
noncomputable def q93:BT:=N (boot_o_0 P) (N (boot_o_1 P) (N (o187 P) (q85 P) (q86 P)) (N (boot_o_5 P) (q87 P) (q88 P))) (N (boot_o_2 P) (N (boot_o_4 P) (q89 P) q90) (N (boot_o_6 P) (q91 P) (q92 P)))
noncomputable def t205 (P:Params):BT:=(q93 P)
noncomputable def q94:BT:=N o41 (N o11 (N (o74 P) (N o0 L L) (N o114 L L)) (N o0 (N o147 L L) L)) (N o58 (N o167 (N o0 L L) (N o0 L L)) (N o8 (N o11 L L) L))
noncomputable def q95:BT:=N o58 (N (o118 P) (N o58 (N o204 L L) (N o19 L L)) (N (o239 P) (N o193 L L) L)) (N o11 (N o56 (N o177 L L) L) (N o46 (N o134 L L) L))
noncomputable def q96:BT:=N o11 (N o58 (N o11 (N o152 L L) (N o301 L L)) (N o11 (N o61 L L) L)) (N (o304 P) (N o189 (N o11 L L) L) (N o17 (N o47 L L) L))
noncomputable def q97:BT:=N (o267 P) (N o11 (N (o215 P) (N o203 L L) (N o258 L L)) (N o0 (N o0 L L) L)) (N o58 (N o195 (N o0 L L) L) (N o0 (N o221 L L) L))
noncomputable def q98:BT:=N o58 (N (o212 P) (N o58 (N o0 L L) (N o11 L L)) (N o175 (N o11 L L) L)) (N o11 (N o11 (N o255 L L) L) (N o11 (N o123 L L) L))
noncomputable def q99:BT:=N o11 (N o58 (N o11 (N o128 L L) (N o261 L L)) (N o139 (N o0 L L) L)) (N (o102 P) (N o35 (N o91 L L) L) (N o0 (N o265 L L) L))
noncomputable def q100:BT:=N (o291 P) (N o11 (N (o73 P) (N o11 L L) (N o126 L L)) (N o206 (N o288 L L) L)) (N o58 (N o55 (N o121 L L) L) (N o169 (N o213 L L) L))
noncomputable def q101:BT:=N o58 (N (o313 P) (N o58 (N o0 L L) (N o253 L L)) (N o0 (N o154 L L) L)) (N o11 (N o11 (N o0 L L) L) (N o96 (N o252 L L) L))
noncomputable def q102:BT:=N (o236 P) (N (boot_o_7 P) (N o0 (q94 P) (q95 P)) (N o56 (q96 P) (q97 P))) (N o0 (N o317 (q98 P) (q99 P)) (N o149 (q100 P) (q101 P)))
noncomputable def q103:BT:=N o250 (N o40 (N o294 (N o31 L L) (N o23 L L)) (N o200 (N o64 L L) L)) (N (o26 P) (N o242 (N o60 L L) (N o57 L L)) (N o130 (N o0 L L) L))
noncomputable def q104:BT:=N (o207 P) (N o183 (N (o77 P) (N o0 L L) (N o11 L L)) (N o137 (N o11 L L) L)) (N o62 (N o0 (N o39 L L) L) (N o11 (N o0 L L) L))
noncomputable def q105:BT:=N o205 (N (o194 P) (N o63 (N o78 L L) (N o0 L L)) (N o0 (N o164 L L) L)) (N o264 (N o199 (N o0 L L) L) (N o0 (N o146 L L) L))
noncomputable def q106:BT:=N o243 (N o110 (N o293 (N o11 L L) (N o65 L L)) (N o115 (N o251 L L) L)) (N (o109 P) (N o70 (N o150 L L) L) (N o66 (N o11 L L) L))
noncomputable def q107:BT:=N (o230 P) (N o127 (N (o296 P) (N o67 L L) (N o0 L L)) (N o37 (N o0 L L) L)) (N o184 (N o0 (N o25 L L) L) (N o0 (N o0 L L) L))
noncomputable def q108:BT:=N o135 (N (o198 P) (N o59 (N o140 L L) (N o0 L L)) (N o11 (N o81 L L) L)) (N o247 (N o0 (N o11 L L) L) (N o43 (N o277 L L) L))
noncomputable def q109:BT:=N o309 (N o158 (N o6 (N o0 L L) (N o165 L L)) (N o0 (N o86 L L) L)) (N (o24 P) (N o176 (N o0 L L) L) (N o249 (N o11 L L) L))
noncomputable def q110:BT:=N (o234 P) (N o168 (N (o75 P) (N o88 L L) (N o11 L L)) (N o99 (N o273 L L) L)) (N o38 (N o190 (N o159 L L) L) (N o11 (N o0 L L) L))
noncomputable def q111:BT:=N (boot_o_5 P) (N (boot_o_9 P) (N o284 (q103 P) (q104 P)) (N o0 (q105 P) (q106 P))) (N o171 (N o263 (q107 P) (q108 P)) (N o0 (q109 P) (q110 P)))
noncomputable def q112:BT:=N o108 (N o178 (N o210 (N o162 L L) (N o119 L L)) (N o11 (N o281 L L) L)) (N o56 (N o235 (N o11 L L) (N o103 L L)) (N o82 (N o69 L L) L))
noncomputable def q113:BT:=N o56 (N o222 (N o56 (N o111 L L) (N o0 L L)) (N o0 (N o0 L L) L)) (N o173 (N (o192 P) (N o0 L L) L) (N o0 (N o122 L L) L))
noncomputable def q114:BT:=N o136 (N o56 (N o314 (N o85 L L) (N o269 L L)) (N o300 (N o227 L L) L)) (N o14 (N o233 (N o54 L L) L) (N o157 (N o0 L L) L))
noncomputable def q115:BT:=N o279 (N o224 (N o33 (N o0 L L) (N o0 L L)) (N o21 (N o11 L L) L)) (N o56 (N o133 (N o231 L L) L) (N o11 (N o0 L L) L))
noncomputable def q116:BT:=N o56 (N o282 (N o56 (N o11 L L) (N o257 L L)) (N o141 (N o306 L L) L)) (N o223 (N o248 (N o287 L L) L) (N o226 (N o20 L L) L))
noncomputable def q117:BT:=N o112 (N o56 (N o290 (N o0 L L) (N o153 L L)) (N o0 (N o27 L L) L)) (N o48 (N o256 (N o0 L L) L) (N o34 (N o0 L L) L))
noncomputable def q118:BT:=N o15 (N o268 (N o93 (N o28 L L) (N o0 L L)) (N o2 (N o76 L L) L)) (N o56 (N o36 (N o280 L L) L) (N o0 (N o0 L L) L))
noncomputable def q119:BT:=N o56 (N o245 (N o56 (N o10 L L) (N o0 L L)) (N o11 (N o79 L L) L)) (N o72 (N o185 (N o11 L L) L) (N o0 (N o142 L L) L))
noncomputable def q120:BT:=N (boot_o_4 P) (N (boot_o_8 P) (N o11 q112 (q113 P)) (N (o286 P) q114 q115)) (N o117 (N o172 q116 q117) (N o132 q118 q119))
noncomputable def q121:BT:=N o44 (N o0 (N o97 (N o1 L L) (N o0 L L)) (N o0 (N o0 L L) L)) (N o0 (N o0 (N o0 L L) (N o298 L L)) (N o0 (N o316 L L) L))
noncomputable def q122:BT:=N o0 (N o201 (N o0 (N o11 L L) (N o90 L L)) (N o125 (N o98 L L) L)) (N o0 (N o11 (N o155 L L) L) (N o217 (N o11 L L) L))
noncomputable def q123:BT:=N o0 (N o0 (N o0 (N o0 L L) (N o11 L L)) (N o180 (N (o270 P) L L) L)) (N o312 (N (o197 P) (N o42 L L) L) (N o11 (N o151 L L) L))
noncomputable def q124:BT:=N o71 (N o0 (N o166 (N o32 L L) (N o214 L L)) (N o30 (N o0 L L) L)) (N o0 (N o0 (N o295 L L) L) (N o84 (N o68 L L) L))
noncomputable def q125:BT:=N o0 (N o240 (N o0 (N o0 L L) (N o254 L L)) (N o0 (N o89 L L) L)) (N o0 (N o246 (N o0 L L) L) (N o100 (N o11 L L) L))
noncomputable def q126:BT:=N o0 (N o0 (N o0 (N o101 L L) (N o11 L L)) (N o275 (N o271 L L) L)) (N o131 (N (o310 P) (N o163 L L) L) (N o16 (N o297 L L) L))
noncomputable def q127:BT:=N o232 (N o0 (N o186 (N o92 L L) (N o218 L L)) (N o56 (N o266 L L) L)) (N o0 (N o58 (N o11 L L) L) (N o50 (N o303 L L) L))
noncomputable def q128:BT:=N o0 (N o241 (N o0 (N o124 L L) (N o179 L L)) (N o0 (N o0 L L) L)) (N o0 (N o259 (N o0 L L) L) (N o260 (N o11 L L) L))
noncomputable def q129:BT:=N (boot_o_6 P) (N (boot_o_10 P) (N o0 q121 q122) (N o11 (q123 P) q124)) (N o80 (N o87 q125 (q126 P)) (N (o29 P) q127 q128))
noncomputable def t583 (P:Params):BT:=(N (boot_o_0 P) (N (boot_o_1 P) (q102 P) (q111 P)) (N (boot_o_2 P) (q120 P) (q129 P)))
def e631_0 (P:Params) (t:List Obj):List Obj:=(boot_o_0 P) :: (boot_o_1 P) :: (boot_o_2 P) :: (o307 P) :: (boot_o_4 P) :: (boot_o_5 P) :: (boot_o_6 P) :: (boot_o_7 P) :: (boot_o_8 P) :: (boot_o_9 P) :: (boot_o_10 P) :: o0 :: o305 :: o171 :: o80 :: t
def e631_1 (P:Params) (t:List Obj):List Obj:=o0 :: o11 :: o284 :: o0 :: o317 :: o172 :: o263 :: o87 :: o56 :: (o286 P) :: o0 :: o11 :: o149 :: o132 :: o0 :: t
def e631_2 (P:Params) (t:List Obj):List Obj:=(o29 P) :: o41 :: o108 :: o250 :: o44 :: o58 :: o56 :: (o230 P) :: o0 :: o11 :: o136 :: o205 :: o0 :: (o291 P) :: o15 :: t
def e631_3 (P:Params) (t:List Obj):List Obj:=o309 :: o232 :: o58 :: o56 :: (o207 P) :: o0 :: o11 :: o112 :: o135 :: o0 :: (o267 P) :: o279 :: o243 :: o71 :: o58 :: t
def e631_4 (P:Params) (t:List Obj):List Obj:=o56 :: (o234 P) :: o0 :: o11 :: o178 :: o40 :: o0 :: (o212 P) :: o282 :: o127 :: o240 :: o58 :: o56 :: (o194 P) :: o0 :: t
def e631_5 (P:Params) (t:List Obj):List Obj:=o11 :: o268 :: o158 :: o0 :: (o118 P) :: o222 :: o183 :: o201 :: o58 :: o56 :: (o198 P) :: o0 :: o11 :: o224 :: o110 :: t
def e631_6 (P:Params) (t:List Obj):List Obj:=o0 :: (o313 P) :: o245 :: o168 :: o241 :: o58 :: o56 :: (o26 P) :: o0 :: o11 :: o223 :: o184 :: o0 :: (o304 P) :: o14 :: t
def e631_7 (P:Params) (t:List Obj):List Obj:=o264 :: o312 :: o58 :: o56 :: (o24 P) :: o0 :: o11 :: o173 :: o62 :: o0 :: (o102 P) :: o48 :: o247 :: o131 :: o58 :: t
def e631_8 (P:Params) (t:List Obj):List Obj:=o56 :: (o109 P) :: o0 :: o11 :: o72 :: o38 :: o0 :: (o74 P) :: o210 :: o294 :: o97 :: o58 :: o56 :: (o296 P) :: o0 :: t
def e631_9 (P:Params) (t:List Obj):List Obj:=o11 :: o314 :: o63 :: o0 :: (o73 P) :: o93 :: o6 :: o186 :: o58 :: o56 :: (o77 P) :: o0 :: o11 :: o290 :: o59 :: t
def e631_10 (P:Params) (t:List Obj):List Obj:=o0 :: (o215 P) :: o33 :: o293 :: o166 :: o58 :: o56 :: (o75 P) :: o0 :: o167 :: o235 :: o242 :: o0 :: o11 :: o248 :: t
def e631_11 (P:Params) (t:List Obj):List Obj:=o0 :: o246 :: o189 :: o233 :: o199 :: (o197 P) :: o55 :: o36 :: o176 :: o58 :: o56 :: (o192 P) :: o0 :: o11 :: o35 :: t
def e631_12 (P:Params) (t:List Obj):List Obj:=o256 :: o0 :: (o310 P) :: o195 :: o133 :: o70 :: o0 :: o11 :: o185 :: o190 :: o259 :: o0 :: o11 :: o200 :: o0 :: t
def e631_13 (P:Params) (t:List Obj):List Obj:=o175 :: o141 :: o37 :: o0 :: o11 :: o300 :: o0 :: o180 :: o206 :: o2 :: o0 :: o56 :: (o239 P) :: o0 :: o137 :: t
def e631_14 (P:Params) (t:List Obj):List Obj:=o125 :: o139 :: o0 :: o11 :: o275 :: o0 :: o21 :: o115 :: o30 :: o0 :: o11 :: o99 :: o0 :: o8 :: o82 :: t
def e631_15 (P:Params) (t:List Obj):List Obj:=o130 :: o0 :: o11 :: o226 :: o0 :: o100 :: o17 :: o157 :: o0 :: o11 :: o169 :: o0 :: o249 :: o50 :: o46 :: t
def e631_16 (P:Params) (t:List Obj):List Obj:=o0 :: o11 :: o217 :: o0 :: o34 :: o43 :: o16 :: o0 :: o11 :: o66 :: o84 :: o96 :: o0 :: o11 :: o260 :: t
def e631_17 (P:Params) (t:List Obj):List Obj:=o0 :: o162 :: o31 :: o1 :: o0 :: o11 :: o67 :: o0 :: o152 :: o85 :: o78 :: o0 :: o11 :: o28 :: o0 :: t
def e631_18 (P:Params) (t:List Obj):List Obj:=o92 :: o204 :: o111 :: o0 :: o11 :: o128 :: o0 :: o140 :: o101 :: o203 :: o0 :: o11 :: o32 :: o0 :: o10 :: t
def e631_19 (P:Params) (t:List Obj):List Obj:=o88 :: o124 :: o0 :: o11 :: o60 :: o0 :: o255 :: o287 :: o25 :: o0 :: o11 :: o54 :: o0 :: o42 :: o121 :: t
def e631_20 (P:Params) (t:List Obj):List Obj:=o280 :: o0 :: o11 :: o177 :: o0 :: o39 :: o155 :: o91 :: o0 :: o11 :: o163 :: o0 :: o231 :: o150 :: o295 :: t
def e631_21 (P:Params) (t:List Obj):List Obj:=o0 :: o11 :: o159 :: o0 :: o147 :: o281 :: o64 :: o0 :: o11 :: o306 :: o0 :: o89 :: o61 :: o227 :: o164 :: t
def e631_22 (P:Params) (t:List Obj):List Obj:=(o270 P) :: o288 :: o76 :: o86 :: o266 :: o193 :: o0 :: o11 :: o98 :: o0 :: o27 :: o81 :: o271 :: o0 :: o11 :: t
def e631_23 (P:Params) (t:List Obj):List Obj:=o251 :: o0 :: o154 :: o79 :: o273 :: o0 :: o11 :: o69 :: o0 :: o316 :: o123 :: o20 :: o0 :: o11 :: o47 :: t
def e631_24 (P:Params) (t:List Obj):List Obj:=o0 :: o146 :: o151 :: o213 :: o0 :: o11 :: o303 :: o134 :: o122 :: o0 :: o11 :: o265 :: o0 :: o277 :: o297 :: t
def e631_25 (P:Params) (t:List Obj):List Obj:=o221 :: o0 :: o11 :: o68 :: o252 :: o142 :: o0 :: o11 :: o114 :: o119 :: o23 :: o0 :: o11 :: o257 :: o0 :: t
def e631_26 (P:Params) (t:List Obj):List Obj:=o254 :: o301 :: o269 :: o0 :: o11 :: o126 :: o0 :: o165 :: o218 :: o19 :: o0 :: o11 :: o90 :: o261 :: o153 :: t
def e631_27 (P:Params) (t:List Obj):List Obj:=o0 :: o11 :: o258 :: o0 :: o65 :: o214 :: o253 :: o0 :: o11 :: o179 :: o0 :: o103 :: o57 :: o298 :: o0 :: t
def e631_28 (P:Params) (t:List Obj):List Obj:=o11 :: o174 :: o0 :: o308 :: o83 :: o274 :: o0 :: o11 :: o299 :: o0 :: o95 :: o302 :: o49 :: o0 :: o11 :: t
def e631_29 (P:Params) (t:List Obj):List Obj:=o229 :: o0 :: o116 :: o22 :: o18 :: o0 :: o11 :: o3 :: o0 :: o144 :: o276 :: o138 :: o0 :: o11 :: o289 :: t
def e631_30 (P:Params) (t:List Obj):List Obj:=o181 :: o225 :: o0 :: o11 :: o5 :: o244 :: o113 :: o0 :: o11 :: o145 :: o0 :: o161 :: o272 :: o160 :: t
noncomputable def e631 (P:Params):Heap:=⟨⟨(e631_0 P (e631_1 P (e631_2 P (e631_3 P (e631_4 P (e631_5 P (e631_6 P (e631_7 P (e631_8 P (e631_9 P (e631_10 P (e631_11 P (e631_12 P (e631_13 P (e631_14 P (e631_15 P (e631_16 P (e631_17 P (e631_18 P (e631_19 P (e631_20 P (e631_21 P (e631_22 P (e631_23 P (e631_24 P (e631_25 P (e631_26 P (e631_27 P (e631_28 P (e631_29 P (e631_30 P [])))))))))))))))))))))))))))))))⟩,⟨[],[],[],0,[],[],false,#[],[],0,false,false,false,0,[2000,10,10],false,0,true,[],[],0,false⟩⟩
noncomputable def q130:BT:=N (o283 P) (N (boot_o_7 P) (N o0 (N o196 L L) (N o58 L L)) (N o56 (N o11 L L) (N (o267 P) L L))) (N o0 (N o317 (N o58 L L) (N o11 L L)) (N o149 (N (o291 P) L L) L))
noncomputable def q131:BT:=N (boot_o_5 P) (N (boot_o_9 P) (N o284 (N o250 L L) (N (o207 P) L L)) (N o0 (N o205 L L) (N o243 L L))) (N o171 (N o263 (N (o230 P) L L) (N o135 L L)) (N o0 (N o309 L L) L))
noncomputable def q132:BT:=N (boot_o_4 P) (N (boot_o_8 P) (N o11 (N o108 L L) (N o56 L L)) (N (o286 P) (N o136 L L) (N o279 L L))) (N o262 (N o172 (N o56 L L) (N o112 L L)) (N o132 (N o15 L L) L))
noncomputable def q133:BT:=N (boot_o_6 P) (N (boot_o_10 P) (N o0 (N o44 L L) (N o0 L L)) (N o11 (N o0 L L) (N o71 L L))) (N o80 (N o87 (N o0 L L) (N o0 L L)) (N (o29 P) (N o232 L L) L))
noncomputable def t100 (P:Params):BT:=(N (boot_o_0 P) (N (boot_o_1 P) (q130 P) (q131 P)) (N (boot_o_2 P) (q132 P) (q133 P)))
noncomputable def q134:BT:=N o0 (N o41 (N o11 (N (o74 P) (N o0 L L) L) (N o0 L L)) (N o58 (N o167 (N o0 L L) L) (N o8 L L))) (N o58 (N (o118 P) (N o58 (N o204 L L) L) (N (o220 P) L L)) (N o11 (N o56 L L) (N o46 L L)))
noncomputable def q135:BT:=N o56 (N o11 (N o58 (N o11 (N o152 L L) L) (N o11 L L)) (N (o304 P) (N o189 L L) (N o17 L L))) (N (o267 P) (N o11 (N (o215 P) (N o203 L L) L) (N o0 L L)) (N o58 (N o195 L L) (N o0 L L)))
noncomputable def q136:BT:=N o317 (N o58 (N (o212 P) (N o58 (N o0 L L) L) (N o175 L L)) (N o11 (N o11 L L) (N o11 L L))) (N o11 (N o58 (N o11 (N o128 L L) L) (N o139 L L)) (N (o102 P) (N o35 L L) (N o0 L L)))
noncomputable def q137:BT:=N o149 (N (o291 P) (N o11 (N (o73 P) (N o11 L L) L) (N o206 L L)) (N o58 (N o55 L L) (N o169 L L))) (N o58 (N (o313 P) (N o58 (N o0 L L) L) (N o0 L L)) (N o11 (N o11 L L) (N o96 L L)))
noncomputable def q138:BT:=N o284 (N o250 (N o40 (N o294 (N o31 L L) L) (N o200 L L)) (N (o26 P) (N o242 (N o60 L L) L) (N o130 L L))) (N (o207 P) (N o183 (N (o77 P) (N o0 L L) L) (N o53 L L)) (N o62 (N o0 L L) (N o11 L L)))
noncomputable def q139:BT:=N o0 (N o205 (N (o194 P) (N o63 (N o78 L L) L) (N o0 L L)) (N o264 (N o199 L L) (N o0 L L))) (N o243 (N o110 (N o293 (N o11 L L) L) (N o115 L L)) (N (o109 P) (N o70 L L) (N o66 L L)))
noncomputable def q140:BT:=N o263 (N (o230 P) (N o127 (N (o296 P) (N o67 L L) L) (N o37 L L)) (N o184 (N o0 L L) (N o0 L L))) (N o135 (N (o198 P) (N o59 (N o140 L L) L) (N o11 L L)) (N o247 (N o0 L L) (N o43 L L)))
noncomputable def q141:BT:=N o0 (N o309 (N o158 (N o6 (N o0 L L) L) (N o0 L L)) (N (o24 P) (N o176 L L) (N o249 L L))) (N (o234 P) (N o168 (N (o75 P) (N o88 L L) L) (N o99 L L)) (N o38 (N o190 L L) (N o11 L L)))
noncomputable def q142:BT:=N (boot_o_1 P) (N (o7 P) (N (boot_o_7 P) (q134 P) (q135 P)) (N o0 (q136 P) (q137 P))) (N (boot_o_5 P) (N (boot_o_9 P) (q138 P) (q139 P)) (N o171 (q140 P) (q141 P)))
noncomputable def q143:BT:=N o11 (N o108 (N o178 (N o210 (N o162 L L) L) (N o11 L L)) (N o56 (N o235 (N o11 L L) L) (N o82 L L))) (N o56 (N o222 (N o56 (N o111 L L) L) (N o0 L L)) (N o173 (N (o192 P) L L) (N o0 L L)))
noncomputable def q144:BT:=N (o286 P) (N o136 (N o56 (N o314 (N o85 L L) L) (N o300 L L)) (N o14 (N o233 L L) (N o157 L L))) (N o279 (N o224 (N o33 (N o0 L L) L) (N o21 L L)) (N o56 (N o133 L L) (N o11 L L)))
noncomputable def q145:BT:=N o172 (N o56 (N o282 (N o56 (N o11 L L) L) (N o141 L L)) (N o223 (N o248 L L) (N o226 L L))) (N o112 (N o56 (N o290 (N o0 L L) L) (N o0 L L)) (N o48 (N o256 L L) (N o34 L L)))
noncomputable def q146:BT:=N o132 (N o15 (N o268 (N o93 (N o28 L L) L) (N o2 L L)) (N o56 (N o36 L L) (N o0 L L))) (N o56 (N o245 (N o56 (N o10 L L) L) (N o11 L L)) (N o72 (N o185 L L) (N o0 L L)))
noncomputable def q147:BT:=N o0 (N o44 (N o0 (N o97 (N o1 L L) L) (N o0 L L)) (N o0 (N o0 L L) (N o0 L L))) (N o0 (N o201 (N o0 (N o11 L L) L) (N o125 L L)) (N o0 (N o11 L L) (N o217 L L)))
noncomputable def q148:BT:=N o11 (N o0 (N o0 (N o0 (N o0 L L) L) (N o180 L L)) (N o312 (N (o197 P) L L) (N o11 L L))) (N o71 (N o0 (N o166 (N o32 L L) L) (N o30 L L)) (N o0 (N o0 L L) (N o84 L L)))
noncomputable def q149:BT:=N o87 (N o0 (N o240 (N o0 (N o0 L L) L) (N o0 L L)) (N o0 (N o246 L L) (N o100 L L))) (N o0 (N o0 (N o0 (N o101 L L) L) (N o275 L L)) (N o131 (N (o310 P) L L) (N o16 L L)))
noncomputable def q150:BT:=N (o29 P) (N o232 (N o0 (N o186 (N o92 L L) L) (N o56 L L)) (N o0 (N o58 L L) (N o50 L L))) (N o0 (N o241 (N o0 (N o124 L L) L) (N o0 L L)) (N o0 (N o259 L L) (N o260 L L)))
noncomputable def q151:BT:=N (boot_o_2 P) (N (boot_o_4 P) (N (boot_o_8 P) (q143 P) (q144 P)) (N o94 q145 q146)) (N (boot_o_6 P) (N (boot_o_10 P) q147 (q148 P)) (N o80 (q149 P) (q150 P)))
noncomputable def t495 (P:Params):BT:=(N (boot_o_0 P) (q142 P) (q151 P))
noncomputable def q152:BT:=N (o105 P) (N (boot_o_7 P) (N o0 (N o52 (N o11 L L) L) (N o58 L L)) (N o56 (N o11 L L) (N (o267 P) L L))) (N o0 (N o317 (N o58 (N (o212 P) L L) L) (N o11 L L)) (N o149 (N (o291 P) L L) (N o58 L L)))
noncomputable def q153:BT:=N (boot_o_5 P) (N (boot_o_9 P) (N o284 (N o250 (N o40 L L) L) (N (o207 P) L L)) (N o0 (N o205 L L) (N o243 L L))) (N o171 (N o263 (N (o230 P) (N o127 L L) L) (N o135 L L)) (N o0 (N o309 L L) (N (o234 P) L L)))
noncomputable def q154:BT:=N (boot_o_4 P) (N (boot_o_8 P) (N o11 (N o108 (N o178 L L) L) (N o56 L L)) (N (o286 P) (N o136 L L) (N o279 L L))) (N o208 (N o172 (N o56 (N o282 L L) L) (N o112 L L)) (N o132 (N o15 L L) (N o56 L L)))
noncomputable def q155:BT:=N (boot_o_6 P) (N (boot_o_10 P) (N o0 (N o44 (N o0 L L) L) (N o0 L L)) (N o11 (N o0 L L) (N o71 L L))) (N o80 (N o87 (N o0 (N o240 L L) L) (N o0 L L)) (N (o29 P) (N o232 L L) (N o0 L L)))
noncomputable def t115 (P:Params):BT:=(N (boot_o_0 P) (N (boot_o_1 P) (q152 P) (q153 P)) (N (boot_o_2 P) (q154 P) (q155 P)))
def e46_0 (P:Params) (t:List Obj):List Obj:=(boot_o_0 P) :: (boot_o_1 P) :: (boot_o_2 P) :: (boot_o_3 P) :: (boot_o_4 P) :: (boot_o_5 P) :: (boot_o_6 P) :: (boot_o_7 P) :: (boot_o_8 P) :: (boot_o_9 P) :: (boot_o_10 P) :: o0 :: o11 :: o171 :: o80 :: t
noncomputable def e46 (P:Params):Heap:=⟨⟨(e46_0 P [])⟩,⟨[],[],[],0,[],[],false,#[],[],0,false,false,false,0,[2000,10,10],false,0,true,[],[],0,false⟩⟩
noncomputable def q156:BT:=N o0 (N o41 (N o11 (N (o74 P) L L) (N o0 L L)) (N o58 (N o167 L L) L)) (N o58 (N (o118 P) (N o58 L L) L) (N o11 (N o56 L L) L))
noncomputable def q157:BT:=N o56 (N o11 (N o58 (N o11 L L) (N o11 L L)) (N (o304 P) (N o189 L L) L)) (N (o267 P) (N o11 (N (o215 P) L L) L) (N o58 (N o195 L L) L))
noncomputable def q158:BT:=N o317 (N o58 (N (o212 P) (N o58 L L) (N o175 L L)) (N o11 (N o11 L L) L)) (N o11 (N o58 (N o11 L L) L) (N (o102 P) (N o35 L L) L))
noncomputable def q159:BT:=N o149 (N (o291 P) (N o11 (N (o73 P) L L) (N o206 L L)) (N o58 (N o55 L L) L)) (N o58 (N (o313 P) (N o58 L L) L) (N o11 (N o11 L L) L))
noncomputable def q160:BT:=N o284 (N o250 (N o40 (N o294 L L) (N o200 L L)) (N (o26 P) (N o242 L L) L)) (N (o207 P) (N o183 (N (o77 P) L L) L) (N o62 (N o0 L L) L))
noncomputable def q161:BT:=N o0 (N o205 (N (o194 P) (N o63 L L) (N o0 L L)) (N o264 (N o199 L L) L)) (N o243 (N o110 (N o293 L L) L) (N (o109 P) (N o70 L L) L))
noncomputable def q162:BT:=N o263 (N (o230 P) (N o127 (N (o296 P) L L) (N o37 L L)) (N o184 (N o0 L L) L)) (N o135 (N (o198 P) (N o59 L L) L) (N o247 (N o0 L L) L))
noncomputable def q163:BT:=N o0 (N o309 (N o158 (N o6 L L) L) (N (o24 P) (N o176 L L) L)) (N (o234 P) (N o168 (N (o75 P) L L) L) (N o38 (N o190 L L) L))
noncomputable def q164:BT:=N (boot_o_1 P) (N (o7 P) (N (boot_o_7 P) (q156 P) (q157 P)) (N o0 (q158 P) (q159 P))) (N (boot_o_5 P) (N (boot_o_9 P) (q160 P) (q161 P)) (N o171 (q162 P) (q163 P)))
noncomputable def q165:BT:=N o11 (N o108 (N o178 (N o210 L L) (N o11 L L)) (N o56 (N o235 L L) L)) (N o56 (N o222 (N o56 L L) L) (N o173 (N (o192 P) L L) L))
noncomputable def q166:BT:=N (o286 P) (N o136 (N o56 (N o314 L L) (N o300 L L)) (N o14 (N o233 L L) L)) (N o279 (N o224 (N o33 L L) L) (N o56 (N o133 L L) L))
noncomputable def q167:BT:=N o172 (N o56 (N o282 (N o56 L L) (N o141 L L)) (N o223 (N o248 L L) L)) (N o112 (N o56 (N o290 L L) L) (N o48 (N o256 L L) L))
noncomputable def q168:BT:=N o132 (N o15 (N o268 (N o93 L L) (N o2 L L)) (N o56 (N o36 L L) L)) (N o56 (N o245 (N o56 L L) L) (N o72 (N o185 L L) L))
noncomputable def q169:BT:=N o0 (N o44 (N o0 (N o97 L L) (N o0 L L)) (N o0 (N o0 L L) L)) (N o0 (N o201 (N o0 L L) L) (N o0 (N o11 L L) L))
noncomputable def q170:BT:=N o11 (N o0 (N o0 (N o0 L L) (N o180 L L)) (N o312 (N (o197 P) L L) L)) (N o71 (N o0 (N o166 L L) L) (N o0 (N o0 L L) L))
noncomputable def q171:BT:=N o87 (N o0 (N o240 (N o0 L L) (N o0 L L)) (N o0 (N o246 L L) L)) (N o0 (N o0 (N o0 L L) L) (N o131 (N (o310 P) L L) L))
noncomputable def q172:BT:=N (o29 P) (N o232 (N o0 (N o186 L L) L) (N o0 (N o58 L L) L)) (N o0 (N o241 (N o0 L L) L) (N o0 (N o259 L L) L))
noncomputable def q173:BT:=N (boot_o_2 P) (N (boot_o_4 P) (N (boot_o_8 P) (q165 P) (q166 P)) (N o285 q167 q168)) (N (boot_o_6 P) (N (boot_o_10 P) q169 (q170 P)) (N o80 (q171 P) (q172 P)))
noncomputable def t276 (P:Params):BT:=(N (boot_o_0 P) (q164 P) (q173 P))
noncomputable def q174:BT:=N (boot_o_7 P) (N o0 (N o106 (N o11 L L) L) (N o58 (N (o118 P) L L) L)) (N o56 (N o11 (N o58 L L) L) (N (o267 P) (N o11 L L) L))
noncomputable def q175:BT:=N o0 (N o317 (N o58 (N (o212 P) L L) L) (N o11 (N o58 L L) L)) (N o149 (N (o291 P) (N o11 L L) L) (N o58 (N (o313 P) L L) L))
noncomputable def q176:BT:=N (boot_o_9 P) (N o284 (N o250 (N o40 L L) L) (N (o207 P) (N o183 L L) L)) (N o0 (N o205 (N (o194 P) L L) L) (N o243 (N o110 L L) L))
noncomputable def q177:BT:=N o171 (N o263 (N (o230 P) (N o127 L L) L) (N o135 (N (o198 P) L L) L)) (N o0 (N o309 (N o158 L L) L) (N (o234 P) (N o168 L L) L))
noncomputable def q178:BT:=N (boot_o_8 P) (N o11 (N o108 (N o178 L L) L) (N o56 (N o222 L L) L)) (N (o286 P) (N o136 (N o56 L L) L) (N o279 (N o224 L L) L))
noncomputable def q179:BT:=N o238 (N o172 (N o56 (N o282 L L) L) (N o112 (N o56 L L) L)) (N o132 (N o15 (N o268 L L) L) (N o56 (N o245 L L) L))
noncomputable def q180:BT:=N (boot_o_10 P) (N o0 (N o44 (N o0 L L) L) (N o0 (N o201 L L) L)) (N o11 (N o0 (N o0 L L) L) (N o71 (N o0 L L) L))
noncomputable def q181:BT:=N o80 (N o87 (N o0 (N o240 L L) L) (N o0 (N o0 L L) L)) (N (o29 P) (N o232 (N o0 L L) L) (N o0 (N o241 L L) L))
noncomputable def q182:BT:=N (boot_o_0 P) (N (boot_o_1 P) (N (o9 P) (q174 P) (q175 P)) (N (boot_o_5 P) (q176 P) (q177 P))) (N (boot_o_2 P) (N (boot_o_4 P) (q178 P) q179) (N (boot_o_6 P) (q180 P) (q181 P)))
noncomputable def t145 (P:Params):BT:=(q182 P)
noncomputable def q183:BT:=N o41 (N o11 (N (o74 P) (N o0 L L) L) (N o0 (N o147 L L) L)) (N o58 (N o167 (N o0 L L) L) (N o8 L L))
noncomputable def q184:BT:=N o58 (N (o118 P) (N o58 (N o204 L L) L) (N (o239 P) (N o193 L L) L)) (N o11 (N o56 (N o177 L L) L) (N o46 L L))
noncomputable def q185:BT:=N o11 (N o58 (N o11 (N o152 L L) L) (N o11 (N o61 L L) L)) (N (o304 P) (N o189 (N o11 L L) L) (N o17 L L))
noncomputable def q186:BT:=N o56 (q185 P) (N (o267 P) (N o11 (N (o215 P) (N o203 L L) L) (N o0 L L)) (N o58 (N o195 (N o0 L L) L) (N o0 L L)))
noncomputable def q187:BT:=N o58 (N (o212 P) (N o58 (N o0 L L) L) (N o175 (N o11 L L) L)) (N o11 (N o11 (N o255 L L) L) (N o11 L L))
noncomputable def q188:BT:=N o317 (q187 P) (N o11 (N o58 (N o11 (N o128 L L) L) (N o139 L L)) (N (o102 P) (N o35 (N o91 L L) L) (N o0 L L)))
noncomputable def q189:BT:=N (o291 P) (N o11 (N (o73 P) (N o11 L L) L) (N o206 (N o288 L L) L)) (N o58 (N o55 (N o121 L L) L) (N o169 L L))
noncomputable def q190:BT:=N o149 (q189 P) (N o58 (N (o313 P) (N o58 (N o0 L L) L) (N o0 L L)) (N o11 (N o11 (N o0 L L) L) (N o96 L L)))
noncomputable def q191:BT:=N o250 (N o40 (N o294 (N o31 L L) L) (N o200 (N o64 L L) L)) (N (o26 P) (N o242 (N o60 L L) L) (N o130 L L))
noncomputable def q192:BT:=N o284 (q191 P) (N (o207 P) (N o183 (N (o77 P) (N o0 L L) L) (N o137 L L)) (N o62 (N o0 (N o39 L L) L) (N o11 L L)))
noncomputable def q193:BT:=N o205 (N (o194 P) (N o63 (N o78 L L) L) (N o0 (N o164 L L) L)) (N o264 (N o199 (N o0 L L) L) (N o0 L L))
noncomputable def q194:BT:=N o0 (q193 P) (N o243 (N o110 (N o293 (N o11 L L) L) (N o115 L L)) (N (o109 P) (N o70 (N o150 L L) L) (N o66 L L)))
noncomputable def q195:BT:=N (o230 P) (N o127 (N (o296 P) (N o67 L L) L) (N o37 (N o0 L L) L)) (N o184 (N o0 (N o25 L L) L) (N o0 L L))
noncomputable def q196:BT:=N o263 (q195 P) (N o135 (N (o198 P) (N o59 (N o140 L L) L) (N o11 L L)) (N o247 (N o0 (N o11 L L) L) (N o43 L L)))
noncomputable def q197:BT:=N o309 (N o158 (N o6 (N o0 L L) L) (N o0 (N o86 L L) L)) (N (o24 P) (N o176 (N o0 L L) L) (N o249 L L))
noncomputable def q198:BT:=N o0 (q197 P) (N (o234 P) (N o168 (N (o75 P) (N o88 L L) L) (N o99 L L)) (N o38 (N o190 (N o159 L L) L) (N o11 L L)))
noncomputable def q199:BT:=N (boot_o_1 P) (N (o202 P) (N (boot_o_7 P) (N o0 (q183 P) (q184 P)) (q186 P)) (N o0 (q188 P) (q190 P))) (N (boot_o_5 P) (N (boot_o_9 P) (q192 P) (q194 P)) (N o171 (q196 P) (q198 P)))
noncomputable def q200:BT:=N o108 (N o178 (N o210 (N o162 L L) L) (N o11 (N o281 L L) L)) (N o56 (N o235 (N o11 L L) L) (N o82 L L))
noncomputable def q201:BT:=N o11 q200 (N o56 (N o222 (N o56 (N o111 L L) L) (N o0 L L)) (N o173 (N (o192 P) (N o0 L L) L) (N o0 L L)))
noncomputable def q202:BT:=N o136 (N o56 (N o314 (N o85 L L) L) (N o300 (N o227 L L) L)) (N o14 (N o233 (N o54 L L) L) (N o157 L L))
noncomputable def q203:BT:=N (o286 P) q202 (N o279 (N o224 (N o33 (N o0 L L) L) (N o21 L L)) (N o56 (N o133 (N o231 L L) L) (N o11 L L)))
noncomputable def q204:BT:=N o56 (N o282 (N o56 (N o11 L L) L) (N o141 (N o306 L L) L)) (N o223 (N o248 (N o287 L L) L) (N o226 L L))
noncomputable def q205:BT:=N o172 q204 (N o112 (N o56 (N o290 (N o0 L L) L) (N o0 L L)) (N o48 (N o256 (N o0 L L) L) (N o34 L L)))
noncomputable def q206:BT:=N o15 (N o268 (N o93 (N o28 L L) L) (N o2 (N o76 L L) L)) (N o56 (N o36 (N o280 L L) L) (N o0 L L))
noncomputable def q207:BT:=N o132 q206 (N o56 (N o245 (N o56 (N o10 L L) L) (N o11 L L)) (N o72 (N o185 (N o11 L L) L) (N o0 L L)))
noncomputable def q208:BT:=N o44 (N o0 (N o97 (N o1 L L) L) (N o0 (N o0 L L) L)) (N o0 (N o0 (N o0 L L) L) (N o0 L L))
noncomputable def q209:BT:=N o0 q208 (N o0 (N o201 (N o0 (N o11 L L) L) (N o125 L L)) (N o0 (N o11 (N o155 L L) L) (N o217 L L)))
noncomputable def q210:BT:=N o0 (N o0 (N o0 (N o0 L L) L) (N o180 (N (o270 P) L L) L)) (N o312 (N (o197 P) (N o42 L L) L) (N o11 L L))
noncomputable def q211:BT:=N o11 (q210 P) (N o71 (N o0 (N o166 (N o32 L L) L) (N o30 L L)) (N o0 (N o0 (N o295 L L) L) (N o84 L L)))
noncomputable def q212:BT:=N o0 (N o240 (N o0 (N o0 L L) L) (N o0 (N o89 L L) L)) (N o0 (N o246 (N o0 L L) L) (N o100 L L))
noncomputable def q213:BT:=N o87 q212 (N o0 (N o0 (N o0 (N o101 L L) L) (N o275 L L)) (N o131 (N (o310 P) (N o163 L L) L) (N o16 L L)))
noncomputable def q214:BT:=N o232 (N o0 (N o186 (N o92 L L) L) (N o56 (N o266 L L) L)) (N o0 (N o58 (N o11 L L) L) (N o50 L L))
noncomputable def q215:BT:=N (o29 P) q214 (N o0 (N o241 (N o0 (N o124 L L) L) (N o0 L L)) (N o0 (N o259 (N o0 L L) L) (N o260 L L)))
noncomputable def q216:BT:=N (boot_o_2 P) (N (boot_o_4 P) (N (boot_o_8 P) (q201 P) (q203 P)) (N o94 q205 q207)) (N (boot_o_6 P) (N (boot_o_10 P) q209 (q211 P)) (N o80 (q213 P) (q215 P)))
noncomputable def t409 (P:Params):BT:=(N (boot_o_0 P) (q199 P) (q216 P))
noncomputable def q217:BT:=N (boot_o_7 P) (N o0 (N o45 (N o11 L L) (N o58 L L)) (N o58 (N (o118 P) L L) L)) (N o56 (N o11 (N o58 L L) (N (o304 P) L L)) (N (o267 P) (N o11 L L) L))
noncomputable def q218:BT:=N o0 (N o317 (N o58 (N (o212 P) L L) (N o11 L L)) (N o11 (N o58 L L) L)) (N o149 (N (o291 P) (N o11 L L) L) (N o58 (N (o313 P) L L) L))
noncomputable def q219:BT:=N (boot_o_9 P) (N o284 (N o250 (N o40 L L) (N (o26 P) L L)) (N (o207 P) (N o183 L L) L)) (N o0 (N o205 (N (o194 P) L L) (N o264 L L)) (N o243 (N o110 L L) L))
noncomputable def q220:BT:=N o171 (N o263 (N (o230 P) (N o127 L L) (N o184 L L)) (N o135 (N (o198 P) L L) L)) (N o0 (N o309 (N o158 L L) L) (N (o234 P) (N o168 L L) L))
noncomputable def q221:BT:=N (boot_o_8 P) (N o11 (N o108 (N o178 L L) (N o56 L L)) (N o56 (N o222 L L) L)) (N (o286 P) (N o136 (N o56 L L) (N o14 L L)) (N o279 (N o224 L L) L))
noncomputable def q222:BT:=N o156 (N o172 (N o56 (N o282 L L) (N o223 L L)) (N o112 (N o56 L L) L)) (N o132 (N o15 (N o268 L L) L) (N o56 (N o245 L L) L))
noncomputable def q223:BT:=N (boot_o_10 P) (N o0 (N o44 (N o0 L L) (N o0 L L)) (N o0 (N o201 L L) L)) (N o11 (N o0 (N o0 L L) (N o312 L L)) (N o71 (N o0 L L) L))
noncomputable def q224:BT:=N o80 (N o87 (N o0 (N o240 L L) (N o0 L L)) (N o0 (N o0 L L) L)) (N (o29 P) (N o232 (N o0 L L) L) (N o0 (N o241 L L) L))
noncomputable def q225:BT:=N (boot_o_0 P) (N (boot_o_1 P) (N (o315 P) (q217 P) (q218 P)) (N (boot_o_5 P) (q219 P) (q220 P))) (N (boot_o_2 P) (N (boot_o_4 P) (q221 P) q222) (N (boot_o_6 P) (q223 P) (q224 P)))
noncomputable def t160 (P:Params):BT:=(q225 P)
noncomputable def q226:BT:=N (boot_o_7 P) (N o0 (N o311 (N o11 L L) L) (N o58 (N (o118 P) L L) L)) (N o56 (N o11 (N o58 L L) L) (N (o267 P) L L))
noncomputable def q227:BT:=N (o170 P) (q226 P) (N o0 (N o317 (N o58 (N (o212 P) L L) L) (N o11 L L)) (N o149 (N (o291 P) (N o11 L L) L) (N o58 L L)))
noncomputable def q228:BT:=N (boot_o_9 P) (N o284 (N o250 (N o40 L L) L) (N (o207 P) (N o183 L L) L)) (N o0 (N o205 (N (o194 P) L L) L) (N o243 L L))
noncomputable def q229:BT:=N (boot_o_5 P) (q228 P) (N o171 (N o263 (N (o230 P) (N o127 L L) L) (N o135 L L)) (N o0 (N o309 (N o158 L L) L) (N (o234 P) L L)))
noncomputable def q230:BT:=N (boot_o_8 P) (N o11 (N o108 (N o178 L L) L) (N o56 (N o222 L L) L)) (N (o286 P) (N o136 (N o56 L L) L) (N o279 L L))
noncomputable def q231:BT:=N (boot_o_4 P) (q230 P) (N o104 (N o172 (N o56 (N o282 L L) L) (N o112 L L)) (N o132 (N o15 (N o268 L L) L) (N o56 L L)))
noncomputable def q232:BT:=N (boot_o_10 P) (N o0 (N o44 (N o0 L L) L) (N o0 (N o201 L L) L)) (N o11 (N o0 (N o0 L L) L) (N o71 L L))
noncomputable def q233:BT:=N (boot_o_6 P) (q232 P) (N o80 (N o87 (N o0 (N o240 L L) L) (N o0 L L)) (N (o29 P) (N o232 (N o0 L L) L) (N o0 L L)))
noncomputable def t130 (P:Params):BT:=(N (boot_o_0 P) (N (boot_o_1 P) (q227 P) (q229 P)) (N (boot_o_2 P) (q231 P) (q233 P)))
noncomputable def q234:BT:=N (boot_o_1 P) (N (o129 P) (N (boot_o_7 P) (N o0 (N o278 L L) L) (N o56 L L)) (N o0 (N o317 L L) (N o149 L L))) (N (boot_o_5 P) (N (boot_o_9 P) (N o284 (N o250 L L) L) (N o0 L L)) (N o171 (N o263 L L) (N o0 L L)))
noncomputable def q235:BT:=N (boot_o_2 P) (N (boot_o_4 P) (N (boot_o_8 P) (N o11 (N o108 L L) L) (N (o286 P) L L)) (N o13 (N o172 L L) (N o132 L L))) (N (boot_o_6 P) (N (boot_o_10 P) (N o0 (N o44 L L) L) (N o11 L L)) (N o80 (N o87 L L) (N (o29 P) L L)))
noncomputable def t70 (P:Params):BT:=(N (boot_o_0 P) (q234 P) (q235 P))
noncomputable def q236:BT:=N (boot_o_0 P) (N (boot_o_1 P) (N (boot_o_3 P) (N (boot_o_7 P) L L) (N o0 L L)) (N (boot_o_5 P) (N (boot_o_9 P) L L) (N o171 L L))) (N (boot_o_2 P) (N (boot_o_4 P) (N (boot_o_8 P) L L) (N o11 L L)) (N (boot_o_6 P) (N (boot_o_10 P) L L) (N o80 L L)))
noncomputable def t47 (P:Params):BT:=(q236 P)
def vw:Program:=PySem.W.view PySem.Challenge.pw_treeright_k15_refused_at_all_doors [0,2,3,4,5,6,7,8,9,10,11,12,13,14,16,17,18,20,21,22,24,25,26,27,28,29,30,31,32,33,34,35,36,37,38,39,40,41,42,43]
noncomputable def s49:List Stmt:=(PySem.Challenge.pw_treeright_k15_refused_at_all_doors.main.body.drop 0).take 3
noncomputable def s71:List Stmt:=(PySem.Challenge.pw_treeright_k15_refused_at_all_doors.main.body.drop 3).take 1
noncomputable def s86:List Stmt:=(PySem.Challenge.pw_treeright_k15_refused_at_all_doors.main.body.drop 4).take 1
noncomputable def s101:List Stmt:=(PySem.Challenge.pw_treeright_k15_refused_at_all_doors.main.body.drop 5).take 1
noncomputable def s116:List Stmt:=(PySem.Challenge.pw_treeright_k15_refused_at_all_doors.main.body.drop 6).take 1
noncomputable def s131:List Stmt:=(PySem.Challenge.pw_treeright_k15_refused_at_all_doors.main.body.drop 7).take 1
noncomputable def s146:List Stmt:=(PySem.Challenge.pw_treeright_k15_refused_at_all_doors.main.body.drop 8).take 1
noncomputable def s161:List Stmt:=(PySem.Challenge.pw_treeright_k15_refused_at_all_doors.main.body.drop 9).take 1
noncomputable def s176:List Stmt:=(PySem.Challenge.pw_treeright_k15_refused_at_all_doors.main.body.drop 10).take 1
noncomputable def s191:List Stmt:=(PySem.Challenge.pw_treeright_k15_refused_at_all_doors.main.body.drop 11).take 1
noncomputable def s206:List Stmt:=(PySem.Challenge.pw_treeright_k15_refused_at_all_doors.main.body.drop 12).take 1
noncomputable def s221:List Stmt:=(PySem.Challenge.pw_treeright_k15_refused_at_all_doors.main.body.drop 13).take 1
noncomputable def s243:List Stmt:=(PySem.Challenge.pw_treeright_k15_refused_at_all_doors.main.body.drop 14).take 8
noncomputable def s277:List Stmt:=(PySem.Challenge.pw_treeright_k15_refused_at_all_doors.main.body.drop 22).take 1
noncomputable def s499:List Stmt:=(PySem.Challenge.pw_treeright_k15_refused_at_all_doors.main.body.drop 23).take 14
noncomputable def s584:List Stmt:=(PySem.Challenge.pw_treeright_k15_refused_at_all_doors.main.body.drop 37).take 7
end HD
end
noncomputable def PySem.W.Fast.tw14598715356260435866:Unit:=()
noncomputable def PySem.W.Fast.tw12831946366807014121:Unit:=()
noncomputable def PySem.W.Fast.tw2505294214074580061:Unit:=()
noncomputable def PySem.W.Fast.tw1184825839854068080:Unit:=()
noncomputable def PySem.W.Fast.tw16963627058361203756:Unit:=()
noncomputable def PySem.W.Fast.tw4063309880790847132:Unit:=()
noncomputable def PySem.W.Fast.tw16335552587211677449:Unit:=()
noncomputable def PySem.W.Fast.tw1921148480499289173:Unit:=()
noncomputable def PySem.W.Fast.tw8219606844568596651:Unit:=()
noncomputable def PySem.W.Fast.tw1564543192828473526:Unit:=()
noncomputable def PySem.W.Fast.tw9434032782923581289:Unit:=()
noncomputable def PySem.W.Fast.tw3094701115853657799:Unit:=()
lay_quick PySem.Challenge.pw_treeright_k15_refused_at_all_doors
lay_quick HD.t190
lay_quick HD.t85
lay_quick HD.t220
lay_quick HD.t242
lay_quick HD.t175
lay_quick HD.t630
lay_quick HD.t205
lay_quick HD.t583
lay_quick HD.e631
lay_quick HD.t100
lay_quick HD.t495
lay_quick HD.t115
lay_quick HD.e46
lay_quick HD.t276
lay_quick HD.t145
lay_quick HD.t409
lay_quick HD.t160
lay_quick HD.t130
lay_quick HD.t70
lay_quick HD.t47
noncomputable def PySem.W.Fast.tw11224283036561675971:PySem.Params->PySem.W.BT:=PySem.W.Fast.tw2067825850252802259
theorem PySem.W.Fast.te11224283036561675971:HD.t190=PySem.W.Fast.tw11224283036561675971:=PySem.W.Fast.te2067825850252802259
noncomputable def PySem.W.Fast.tw2294854397974045510:PySem.Params->PySem.W.BT:=PySem.W.Fast.tw2036878166784380086
theorem PySem.W.Fast.te2294854397974045510:HD.t85=PySem.W.Fast.tw2294854397974045510:=PySem.W.Fast.te2036878166784380086
noncomputable def PySem.W.Fast.tw6364832225403335943:PySem.Params->PySem.W.BT:=PySem.W.Fast.tw17152881445362334774
theorem PySem.W.Fast.te6364832225403335943:HD.t220=PySem.W.Fast.tw6364832225403335943:=PySem.W.Fast.te17152881445362334774
noncomputable def PySem.W.Fast.tw16029188298635462215:PySem.Params->PySem.W.BT:=PySem.W.Fast.tw9221785693231611341
theorem PySem.W.Fast.te16029188298635462215:HD.t242=PySem.W.Fast.tw16029188298635462215:=PySem.W.Fast.te9221785693231611341
noncomputable def PySem.W.Fast.tw4631843929112630505:PySem.Params->PySem.W.BT:=PySem.W.Fast.tw920612414741421765
theorem PySem.W.Fast.te4631843929112630505:HD.t175=PySem.W.Fast.tw4631843929112630505:=PySem.W.Fast.te920612414741421765
noncomputable def PySem.W.Fast.tw1921481113149802667:PySem.Params->PySem.W.BT:=PySem.W.Fast.tw18087724605980676884
theorem PySem.W.Fast.te1921481113149802667:HD.t630=PySem.W.Fast.tw1921481113149802667:=PySem.W.Fast.te18087724605980676884
noncomputable def PySem.W.Fast.tw11268533821286410027:PySem.Params->PySem.W.BT:=PySem.W.Fast.tw14164315333175427251
theorem PySem.W.Fast.te11268533821286410027:HD.t205=PySem.W.Fast.tw11268533821286410027:=PySem.W.Fast.te14164315333175427251
noncomputable def PySem.W.Fast.tw3568904131022704940:PySem.Params->PySem.W.BT:=PySem.W.Fast.tw1652014901722656296
theorem PySem.W.Fast.te3568904131022704940:HD.t583=PySem.W.Fast.tw3568904131022704940:=PySem.W.Fast.te1652014901722656296
noncomputable def PySem.W.Fast.tw18155409394255110476:PySem.Params->PySem.Heap:=PySem.W.Fast.tw2502245164776307699
theorem PySem.W.Fast.te18155409394255110476:HD.e631=PySem.W.Fast.tw18155409394255110476:=PySem.W.Fast.te2502245164776307699
noncomputable def PySem.W.Fast.tw17546005709695080877:PySem.Params->PySem.W.BT:=PySem.W.Fast.tw11108817263175320385
theorem PySem.W.Fast.te17546005709695080877:HD.t100=PySem.W.Fast.tw17546005709695080877:=PySem.W.Fast.te11108817263175320385
noncomputable def PySem.W.Fast.tw10235529412052057262:PySem.Params->PySem.W.BT:=PySem.W.Fast.tw2682412984581759659
theorem PySem.W.Fast.te10235529412052057262:HD.t495=PySem.W.Fast.tw10235529412052057262:=PySem.W.Fast.te2682412984581759659
noncomputable def PySem.W.Fast.tw15632388027458123374:PySem.Params->PySem.W.BT:=PySem.W.Fast.tw13006058816851964647
theorem PySem.W.Fast.te15632388027458123374:HD.t115=PySem.W.Fast.tw15632388027458123374:=PySem.W.Fast.te13006058816851964647
noncomputable def PySem.W.Fast.tw2257529940240947247:PySem.Params->PySem.Heap:=PySem.W.Fast.tw12643942650068612825
theorem PySem.W.Fast.te2257529940240947247:HD.e46=PySem.W.Fast.tw2257529940240947247:=PySem.W.Fast.te12643942650068612825
noncomputable def PySem.W.Fast.tw13160956018194450736:PySem.Params->PySem.W.BT:=PySem.W.Fast.tw12020524707321372647
theorem PySem.W.Fast.te13160956018194450736:HD.t276=PySem.W.Fast.tw13160956018194450736:=PySem.W.Fast.te12020524707321372647
noncomputable def PySem.W.Fast.tw17888565902029391346:PySem.Params->PySem.W.BT:=PySem.W.Fast.tw14662557133790047758
theorem PySem.W.Fast.te17888565902029391346:HD.t145=PySem.W.Fast.tw17888565902029391346:=PySem.W.Fast.te14662557133790047758
noncomputable def PySem.W.Fast.tw2793120867230878194:PySem.Params->PySem.W.BT:=PySem.W.Fast.tw7117889046271182470
theorem PySem.W.Fast.te2793120867230878194:HD.t409=PySem.W.Fast.tw2793120867230878194:=PySem.W.Fast.te7117889046271182470
noncomputable def PySem.W.Fast.tw2810533944269268182:PySem.Params->PySem.W.BT:=PySem.W.Fast.tw452476676235954211
theorem PySem.W.Fast.te2810533944269268182:HD.t160=PySem.W.Fast.tw2810533944269268182:=PySem.W.Fast.te452476676235954211
noncomputable def PySem.W.Fast.tw1292346606274980823:PySem.Params->PySem.W.BT:=PySem.W.Fast.tw7778535457881203485
theorem PySem.W.Fast.te1292346606274980823:HD.t130=PySem.W.Fast.tw1292346606274980823:=PySem.W.Fast.te7778535457881203485
noncomputable def PySem.W.Fast.tw877418901244307835:PySem.Params->PySem.W.BT:=PySem.W.Fast.tw4601978763475442059
theorem PySem.W.Fast.te877418901244307835:HD.t70=PySem.W.Fast.tw877418901244307835:=PySem.W.Fast.te4601978763475442059
noncomputable def PySem.W.Fast.tw804092199982636349:PySem.Params->PySem.W.BT:=PySem.W.Fast.tw12288697002581643564
theorem PySem.W.Fast.te804092199982636349:HD.t47=PySem.W.Fast.tw804092199982636349:=PySem.W.Fast.te12288697002581643564
noncomputable def PySem.W.Fast.tw1647960591809683682:PySem.Program:=PySem.W.view PySem.W.Fast.tw2857167030225026668 [0,2,3,4,5,6,7,8,9,10,11,12,13,14,16,17,18,20,21,22,24,25,26,27,28,29,30,31,32,33,34,35,36,37,38,39,40,41,42,43]
theorem PySem.W.Fast.te1647960591809683682:HD.vw=PySem.W.Fast.tw1647960591809683682:=congrArg (fun p:PySem.Program=>PySem.W.view p [0,2,3,4,5,6,7,8,9,10,11,12,13,14,16,17,18,20,21,22,24,25,26,27,28,29,30,31,32,33,34,35,36,37,38,39,40,41,42,43]) PySem.W.Fast.te2857167030225026668
noncomputable def PySem.W.Fast.tw16970792351503237766:List PySem.Stmt:=(PySem.W.Fast.tw2857167030225026668.main.body.drop 0).take 3
theorem PySem.W.Fast.te16970792351503237766:HD.s49=PySem.W.Fast.tw16970792351503237766:=congrArg (fun p:PySem.Program=>(p.main.body.drop 0).take 3) PySem.W.Fast.te2857167030225026668
noncomputable def PySem.W.Fast.tw7766378276201275438:List PySem.Stmt:=(PySem.W.Fast.tw2857167030225026668.main.body.drop 3).take 1
theorem PySem.W.Fast.te7766378276201275438:HD.s71=PySem.W.Fast.tw7766378276201275438:=congrArg (fun p:PySem.Program=>(p.main.body.drop 3).take 1) PySem.W.Fast.te2857167030225026668
noncomputable def PySem.W.Fast.tw9305391788130653963:List PySem.Stmt:=(PySem.W.Fast.tw2857167030225026668.main.body.drop 4).take 1
theorem PySem.W.Fast.te9305391788130653963:HD.s86=PySem.W.Fast.tw9305391788130653963:=congrArg (fun p:PySem.Program=>(p.main.body.drop 4).take 1) PySem.W.Fast.te2857167030225026668
noncomputable def PySem.W.Fast.tw12673549619886724666:List PySem.Stmt:=(PySem.W.Fast.tw2857167030225026668.main.body.drop 5).take 1
theorem PySem.W.Fast.te12673549619886724666:HD.s101=PySem.W.Fast.tw12673549619886724666:=congrArg (fun p:PySem.Program=>(p.main.body.drop 5).take 1) PySem.W.Fast.te2857167030225026668
noncomputable def PySem.W.Fast.tw14763428746477059428:List PySem.Stmt:=(PySem.W.Fast.tw2857167030225026668.main.body.drop 6).take 1
theorem PySem.W.Fast.te14763428746477059428:HD.s116=PySem.W.Fast.tw14763428746477059428:=congrArg (fun p:PySem.Program=>(p.main.body.drop 6).take 1) PySem.W.Fast.te2857167030225026668
noncomputable def PySem.W.Fast.tw8079883169468671255:List PySem.Stmt:=(PySem.W.Fast.tw2857167030225026668.main.body.drop 7).take 1
theorem PySem.W.Fast.te8079883169468671255:HD.s131=PySem.W.Fast.tw8079883169468671255:=congrArg (fun p:PySem.Program=>(p.main.body.drop 7).take 1) PySem.W.Fast.te2857167030225026668
noncomputable def PySem.W.Fast.tw15416708228241726627:List PySem.Stmt:=(PySem.W.Fast.tw2857167030225026668.main.body.drop 8).take 1
theorem PySem.W.Fast.te15416708228241726627:HD.s146=PySem.W.Fast.tw15416708228241726627:=congrArg (fun p:PySem.Program=>(p.main.body.drop 8).take 1) PySem.W.Fast.te2857167030225026668
noncomputable def PySem.W.Fast.tw14889595167817102546:List PySem.Stmt:=(PySem.W.Fast.tw2857167030225026668.main.body.drop 9).take 1
theorem PySem.W.Fast.te14889595167817102546:HD.s161=PySem.W.Fast.tw14889595167817102546:=congrArg (fun p:PySem.Program=>(p.main.body.drop 9).take 1) PySem.W.Fast.te2857167030225026668
noncomputable def PySem.W.Fast.tw9741163907969138060:List PySem.Stmt:=(PySem.W.Fast.tw2857167030225026668.main.body.drop 10).take 1
theorem PySem.W.Fast.te9741163907969138060:HD.s176=PySem.W.Fast.tw9741163907969138060:=congrArg (fun p:PySem.Program=>(p.main.body.drop 10).take 1) PySem.W.Fast.te2857167030225026668
noncomputable def PySem.W.Fast.tw3985506009949057970:List PySem.Stmt:=(PySem.W.Fast.tw2857167030225026668.main.body.drop 11).take 1
theorem PySem.W.Fast.te3985506009949057970:HD.s191=PySem.W.Fast.tw3985506009949057970:=congrArg (fun p:PySem.Program=>(p.main.body.drop 11).take 1) PySem.W.Fast.te2857167030225026668
noncomputable def PySem.W.Fast.tw17233677561841584812:List PySem.Stmt:=(PySem.W.Fast.tw2857167030225026668.main.body.drop 12).take 1
theorem PySem.W.Fast.te17233677561841584812:HD.s206=PySem.W.Fast.tw17233677561841584812:=congrArg (fun p:PySem.Program=>(p.main.body.drop 12).take 1) PySem.W.Fast.te2857167030225026668
noncomputable def PySem.W.Fast.tw959750476839503417:List PySem.Stmt:=(PySem.W.Fast.tw2857167030225026668.main.body.drop 13).take 1
theorem PySem.W.Fast.te959750476839503417:HD.s221=PySem.W.Fast.tw959750476839503417:=congrArg (fun p:PySem.Program=>(p.main.body.drop 13).take 1) PySem.W.Fast.te2857167030225026668
noncomputable def PySem.W.Fast.tw6692257562035669867:List PySem.Stmt:=(PySem.W.Fast.tw2857167030225026668.main.body.drop 14).take 8
theorem PySem.W.Fast.te6692257562035669867:HD.s243=PySem.W.Fast.tw6692257562035669867:=congrArg (fun p:PySem.Program=>(p.main.body.drop 14).take 8) PySem.W.Fast.te2857167030225026668
noncomputable def PySem.W.Fast.tw1539306535231612676:List PySem.Stmt:=(PySem.W.Fast.tw2857167030225026668.main.body.drop 22).take 1
theorem PySem.W.Fast.te1539306535231612676:HD.s277=PySem.W.Fast.tw1539306535231612676:=congrArg (fun p:PySem.Program=>(p.main.body.drop 22).take 1) PySem.W.Fast.te2857167030225026668
noncomputable def PySem.W.Fast.tw2780869926519335097:List PySem.Stmt:=(PySem.W.Fast.tw2857167030225026668.main.body.drop 23).take 14
theorem PySem.W.Fast.te2780869926519335097:HD.s499=PySem.W.Fast.tw2780869926519335097:=congrArg (fun p:PySem.Program=>(p.main.body.drop 23).take 14) PySem.W.Fast.te2857167030225026668
noncomputable def PySem.W.Fast.tw2829741259497378563:List PySem.Stmt:=(PySem.W.Fast.tw2857167030225026668.main.body.drop 37).take 7
theorem PySem.W.Fast.te2829741259497378563:HD.s584=PySem.W.Fast.tw2829741259497378563:=congrArg (fun p:PySem.Program=>(p.main.body.drop 37).take 7) PySem.W.Fast.te2857167030225026668
open_top head for PySem.Challenge.rw_treeright_k15_refused_at_all_doors
end
namespace K15
open PySem L2
def FnK (K:PySem.W.Frag) (n q:Str) (st:Stmt) (f:Addr):Prop:=∃ (od an:Option Addr) (sl:Array (Option Value)) (oc kV dc pm cd ct:Value),K.lookup f=some ⟨oc,od,.func (PySem.W.fnOf n q (defArgs st) (defBody st) (defScope st) .none kV dc pm an cd ct),sl⟩/\PySem.W.codeIn K cd q=true/\PySem.W.keepIn K (.ref f)=true
def FgK (K:PySem.W.Frag) (n:Str) (st:Stmt):Prop:=∃ f,PySem.W.nsIn K mainGlobals n=some (some (.ref f))/\FnK K n n st f
def MtK (K:PySem.W.Frag) (C:Addr) (n q:Str) (st:Stmt):Prop:=∃ f,PySem.W.findIn K (.ref C) n=some (some (.ref f))/\PySem.W.isFn K (.ref f)=true/\FnK K n q st f
theorem funG_of {K:PySem.W.Frag} {h:Heap} {mg:Str->Option Value} {n:Str} {st:Stmt} {ps:List Str} (X:K.In h) (G:h.Ns mainGlobals mg) (l:FgK K n st)
  (hb:∀ (kV doc pm:Value) (an:Option Addr) (cdv ct:Value) (us:List Value),us.length=ps.length->bindArgs (PySem.W.fnOf n n (defArgs st) (defBody st) (defScope st) .none kV doc pm an cdv ct) ⟨us,[]⟩=pure (ps.zip us)):FunG K mg n st ps:=by
 obtain ⟨f,a,od,an,sl,oc,kV,dc,pm,cd,ct,l,c,k⟩:=l
 exact funG_mk X G a l c k hb
theorem mthG_of {K:PySem.W.Frag} {C:Addr} {n q:Str} {st:Stmt} {ps:List Str} (l:MtK K C n q st)
  (hb:∀ (kV doc pm:Value) (an:Option Addr) (cdv ct:Value) (us:List Value),us.length=ps.length->bindArgs (PySem.W.fnOf n q (defArgs st) (defBody st) (defScope st) .none kV doc pm an cdv ct) ⟨us,[]⟩=pure (ps.zip us)):MthG K C n q st ps:=by
 obtain ⟨f,a,i,od,an,sl,oc,kV,dc,pm,cd,ct,l,c,k⟩:=l
 exact mthG_mk a i l c k hb
structure ClK (K:PySem.W.Frag) (n:Str) (C:Addr):Prop where
 a:PySem.W.nsIn K mainGlobals n=some (some (.ref C))
 pg:PySem.W.plainGet K C Str.empty=true
 hd:PySem.W.hasDictIn K C=true
 po:PySem.W.plainOver K C=true
 sa:PySem.W.findIn K (.ref C) "__setattr__"=some (some (.builtin "object.__setattr__"))
 ms:PySem.W.makesIn K C=true
 kc:PySem.W.keepIn K (.ref C)=true
theorem all_mk {l:PySem.W.OpenLaw} {w:World} {K:PySem.W.Frag} {h:Heap} {mg:Str->Option Value} {fa:Addr} (X:K.In h) (G:h.Ns mainGlobals mg) (hfa:mg "law"=some (.ref fa))
  {fL:Addr} {C:Addr} {t_LETTERS:Tok} {t_LONGEST_NAME:Tok} {x0:Addr} {x1:Addr} {x2:Addr} {x3:Addr} {x4:Addr} {x5:Addr} {x6:Addr} {x7:Addr} {x8:Addr} {x9:Addr} {x10:Addr} {x11:Addr} {x12:Addr}
  (l0:FgK K "is_name" sName)
  (l1:FgK K "check_asker" sChkA)
  (l2:FgK K "check_house" sChkH)
  (l3:FgK K "_law_cell_at" sCell)
  (l4:FgK K "_law_mixed" sMixed)
  (l5:FgK K "_law_digits" sDigits)
  (l6:FgK K "_law_next" sNext)
  (l7:FgK K "_law_names" sNames)
  (l8:FgK K "_law_odd" sOdd)
  (l9:FgK K "_law_kinds" sKinds)
  (l10:FgK K "_law_alike" sAlike)
  (l11:FgK K "_law_told" sTold)
  (l12:FgK K "_law_pools" sPools)
  (l13:FgK K "_law_good_deeds" sGood)
  (l14:FgK K "_law_put" sPut)
  (l15:FgK K "_law_state" sState)
  (l16:FgK K "_law_moved" sMoved)
  (l17:FgK K "_law_bad" sBad)
  (l18:FgK K "_law_made" sMade)
  (l19:FgK K "_law_asked" sAsked)
  (l20:FgK K "_law_doors" sDoo)
  (l21:FgK K "_law_why" sWhy)
  (aL:PySem.W.nsIn K mainGlobals "law"=some (some (.ref fL))) (lL:FnK K "law" "law" sLaw fL)
  (k_C:ClK K "Seat" C)
  (mC0:MtK K C "__init__" "Seat.__init__" sInit)
  (mC1:MtK K C "arrow" "Seat.arrow" sArrow)
  (mC2:MtK K C "row" "Seat.row" sRow)
  (mC3:MtK K C "inside" "Seat.inside" sInside)
  (mC4:MtK K C "has_asked" "Seat.has_asked" sHas)
  (mC5:MtK K C "want" "Seat.want" sWant)
  (mC6:MtK K C "leave" "Seat.leave" sLeave)
  (mC7:MtK K C "done" "Seat.done" sDone)
  (mC8:MtK K C "ask" "Seat.ask" sAsk)
  (mC9:MtK K C "come" "Seat.come" sCome)
  (mC10:MtK K C "move_on" "Seat.move_on" sMove)
  (mC11:MtK K C "serve_first" "Seat.serve_first" sServe)
  (n_C_pointer:PySem.W.findIn K (.ref C) "pointer"=some none)
  (n_C_waiting:PySem.W.findIn K (.ref C) "waiting"=some none)
  (n_C_holder:PySem.W.findIn K (.ref C) "holder"=some none)
  (n_C_asked:PySem.W.findIn K (.ref C) "asked"=some none)
  (z_isinstance:PySem.W.nsIn K mainGlobals "isinstance"=some none)
  (z_str:PySem.W.nsIn K mainGlobals "str"=some none)
  (z_int:PySem.W.nsIn K mainGlobals "int"=some none)
  (z_bool:PySem.W.nsIn K mainGlobals "bool"=some none)
  (z_len:PySem.W.nsIn K mainGlobals "len"=some none)
  (z_all:PySem.W.nsIn K mainGlobals "all"=some none)
  (z_range:PySem.W.nsIn K mainGlobals "range"=some none)
  (z_list:PySem.W.nsIn K mainGlobals "list"=some none)
  (z_tuple:PySem.W.nsIn K mainGlobals "tuple"=some none)
  (z_set:PySem.W.nsIn K mainGlobals "set"=some none)
  (z_sorted:PySem.W.nsIn K mainGlobals "sorted"=some none)
  (z_ValueError:PySem.W.nsIn K mainGlobals "ValueError"=some none)
  (g_LETTERS:PySem.W.nsIn K mainGlobals "LETTERS"=some (some (.str "abcdefghijklmnopqrstuvwxyz" t_LETTERS)))
  (g_LONGEST_NAME:PySem.W.nsIn K mainGlobals "LONGEST_NAME"=some (some (.int 8 t_LONGEST_NAME)))
  (aX_0:PySem.W.nsIn K mainGlobals "NoTree"=some (some (.ref x0)))
  (aX_1:PySem.W.nsIn K mainGlobals "NoHouse"=some (some (.ref x1)))
  (aX_2:PySem.W.nsIn K mainGlobals "NoSeat"=some (some (.ref x2)))
  (aX_3:PySem.W.nsIn K mainGlobals "NoAsker"=some (some (.ref x3)))
  (aX_4:PySem.W.nsIn K mainGlobals "NoLetter"=some (some (.ref x4)))
  (aX_5:PySem.W.nsIn K mainGlobals "NoRight"=some (some (.ref x5)))
  (aX_6:PySem.W.nsIn K mainGlobals "NoRow"=some (some (.ref x6)))
  (aX_7:PySem.W.nsIn K mainGlobals "NoTie"=some (some (.ref x7)))
  (aX_8:PySem.W.nsIn K mainGlobals "Down"=some (some (.ref x8)))
  (aX_9:PySem.W.nsIn K mainGlobals "NoMend"=some (some (.ref x9)))
  (aX_10:PySem.W.nsIn K mainGlobals "NoText"=some (some (.ref x10)))
  (aX_11:PySem.W.nsIn K mainGlobals "NoLine"=some (some (.ref x11)))
  (aX_12:PySem.W.nsIn K mainGlobals "TreeError"=some (some (.ref x12)))
  (xtab:excTab K [x0,x1,x2,x3,x4,x5,x6,x7,x8,x9,x10,x11] x12=true)
  (xall:excAll K [x0,x1,x2,x3,x4,x5,x6,x7,x8,x9,x10,x11]=true) :
  ∃ fd:FuncData,(∀ (s:Shared) (v:Value),BindsTo s fd ⟨[v],[]⟩ [("_law_script",v)])/\∀ base:Heap,K.In base->base.Ns mainGlobals mg->FnOk l.prog w K mg base CX0 6 fa fd ["_law_script"] (spLaw K):=by
 have e:=hfa.symm.trans (PySem.W.mg_of X G aL)
 cases e
 obtain ⟨od,an,sl,oc,kV,dc,pm,cd,ct,lL,cL,kL⟩:=lL
 have GI:FunG K mg "is_name" sName ["thing"]:=funG_of X G l0 (fun _ _ _ _ _ _ us hl=>match us,hl with | [_],_=>rfl)
 have GCA:FunG K mg "check_asker" sChkA ["asker"]:=funG_of X G l1 (fun _ _ _ _ _ _ us hl=>match us,hl with | [_],_=>rfl)
 have GCH:FunG K mg "check_house" sChkH ["house"]:=funG_of X G l2 (fun _ _ _ _ _ _ us hl=>match us,hl with | [_],_=>rfl)
 have GC:FunG K mg "_law_cell_at" sCell ["_law_script","_law_k"]:=funG_of X G l3 (fun _ _ _ _ _ _ us hl=>match us,hl with | [_,_],_=>rfl)
 have GM:FunG K mg "_law_mixed" sMixed ["_law_cell","_law_k"]:=funG_of X G l4 (fun _ _ _ _ _ _ us hl=>match us,hl with | [_,_],_=>rfl)
 have GD:FunG K mg "_law_digits" sDigits ["_law_cell"]:=funG_of X G l5 (fun _ _ _ _ _ _ us hl=>match us,hl with | [_],_=>rfl)
 have GN:FunG K mg "_law_next" sNext ["_law_source","_law_many"]:=funG_of X G l6 (fun _ _ _ _ _ _ us hl=>match us,hl with | [_,_],_=>rfl)
 have GNa:FunG K mg "_law_names" sNames ["_law_source","_law_many"]:=funG_of X G l7 (fun _ _ _ _ _ _ us hl=>match us,hl with | [_,_],_=>rfl)
 have GO:FunG K mg "_law_odd" sOdd ["_law_source","_law_name"]:=funG_of X G l8 (fun _ _ _ _ _ _ us hl=>match us,hl with | [_,_],_=>rfl)
 have GK:FunG K mg "_law_kinds" sKinds ["_law_e"]:=funG_of X G l9 (fun _ _ _ _ _ _ us hl=>match us,hl with | [_],_=>rfl)
 have GAl:FunG K mg "_law_alike" sAlike ["_law_found","_law_due"]:=funG_of X G l10 (fun _ _ _ _ _ _ us hl=>match us,hl with | [_,_],_=>rfl)
 have GT:FunG K mg "_law_told" sTold ["_law_seat"]:=funG_of X G l11 (fun _ _ _ _ _ _ us hl=>match us,hl with | [_],_=>rfl)
 have GPo:FunG K mg "_law_pools" sPools ["_law_cell"]:=funG_of X G l12 (fun _ _ _ _ _ _ us hl=>match us,hl with | [_],_=>rfl)
 have GG:FunG K mg "_law_good_deeds" sGood ["_law_told_here","_law_askers","_law_houses"]:=funG_of X G l13 (fun _ _ _ _ _ _ us hl=>match us,hl with | [_,_,_],_=>rfl)
 have GP:FunG K mg "_law_put" sPut ["_law_seat","_law_deed"]:=funG_of X G l14 (fun _ _ _ _ _ _ us hl=>match us,hl with | [_,_],_=>rfl)
 have GS:FunG K mg "_law_state" sState ["_law_arrow"]:=funG_of X G l15 (fun _ _ _ _ _ _ us hl=>match us,hl with | [_],_=>rfl)
 have GMo:FunG K mg "_law_moved" sMoved ["_law_state_here"]:=funG_of X G l16 (fun _ _ _ _ _ _ us hl=>match us,hl with | [_],_=>rfl)
 have GB:FunG K mg "_law_bad" sBad ["_law_state_here","_law_deed"]:=funG_of X G l17 (fun _ _ _ _ _ _ us hl=>match us,hl with | [_,_],_=>rfl)
 have GMa:FunG K mg "_law_made" sMade ["_law_state_here","_law_deed"]:=funG_of X G l18 (fun _ _ _ _ _ _ us hl=>match us,hl with | [_,_],_=>rfl)
 have GAs:FunG K mg "_law_asked" sAsked ["_law_seat","_law_deed"]:=funG_of X G l19 (fun _ _ _ _ _ _ us hl=>match us,hl with | [_,_],_=>rfl)
 have GDo:FunG K mg "_law_doors" sDoo ["_law_source","_law_askers","_law_houses"]:=funG_of X G l20 (fun _ _ _ _ _ _ us hl=>match us,hl with | [_,_,_],_=>rfl)
 have GW:FunG K mg "_law_why" sWhy ["_law_state_here","_law_deed"]:=funG_of X G l21 (fun _ _ _ _ _ _ us hl=>match us,hl with | [_,_],_=>rfl)
 have FL:=fun_mk (st:=sLaw) lL cL kL
 have cl_C:Cls K C:=⟨k_C.pg,k_C.hd,k_C.po,k_C.sa⟩
 obtain ⟨fiC,aiC,iiC,_,_,_,_,_,_,_,_,_,liC,ciC,kiC⟩:=mC0
 have mIF:=fun_mk (st:=sInit) liC ciC kiC
 have mIB:=mIF.binds (ps:=["self","arrow"]) (fun _ _ _ _ _ _ us hl=>match us,hl with | [_,_],_=>rfl)
 have mIM:Mk K C fiC:=⟨k_C.ms,aiC,iiC,k_C.kc⟩
 have mA:MthG K C "arrow" "Seat.arrow" sArrow ["self"]:=mthG_of mC1 (fun _ _ _ _ _ _ us hl=>match us,hl with | [_],_=>rfl)
 have mR:MthG K C "row" "Seat.row" sRow ["self"]:=mthG_of mC2 (fun _ _ _ _ _ _ us hl=>match us,hl with | [_],_=>rfl)
 have mIn:MthG K C "inside" "Seat.inside" sInside ["self"]:=mthG_of mC3 (fun _ _ _ _ _ _ us hl=>match us,hl with | [_],_=>rfl)
 have mH:MthG K C "has_asked" "Seat.has_asked" sHas ["self"]:=mthG_of mC4 (fun _ _ _ _ _ _ us hl=>match us,hl with | [_],_=>rfl)
 have mW:MthG K C "want" "Seat.want" sWant ["self","asker"]:=mthG_of mC5 (fun _ _ _ _ _ _ us hl=>match us,hl with | [_,_],_=>rfl)
 have mL:MthG K C "leave" "Seat.leave" sLeave ["self","asker"]:=mthG_of mC6 (fun _ _ _ _ _ _ us hl=>match us,hl with | [_,_],_=>rfl)
 have mD:MthG K C "done" "Seat.done" sDone ["self","asker"]:=mthG_of mC7 (fun _ _ _ _ _ _ us hl=>match us,hl with | [_,_],_=>rfl)
 have mAs:MthG K C "ask" "Seat.ask" sAsk ["self","house"]:=mthG_of mC8 (fun _ _ _ _ _ _ us hl=>match us,hl with | [_,_],_=>rfl)
 have mC:MthG K C "come" "Seat.come" sCome ["self","house","back"]:=mthG_of mC9 (fun _ _ _ _ _ _ us hl=>match us,hl with | [_,_,_],_=>rfl)
 have mM:MthG K C "move_on" "Seat.move_on" sMove ["self"]:=mthG_of mC10 (fun _ _ _ _ _ _ us hl=>match us,hl with | [_],_=>rfl)
 have mS:MthG K C "serve_first" "Seat.serve_first" sServe ["self"]:=mthG_of mC11 (fun _ _ _ _ _ _ us hl=>match us,hl with | [_],_=>rfl)
 have mg_C:=PySem.W.mg_of X G k_C.a
 have b_isinstance:Blt mg "isinstance":=⟨PySem.W.mg_none_of X G z_isinstance⟩
 have b_str:Blt mg "str":=⟨PySem.W.mg_none_of X G z_str⟩
 have b_int:Blt mg "int":=⟨PySem.W.mg_none_of X G z_int⟩
 have b_bool:Blt mg "bool":=⟨PySem.W.mg_none_of X G z_bool⟩
 have b_len:Blt mg "len":=⟨PySem.W.mg_none_of X G z_len⟩
 have b_all:Blt mg "all":=⟨PySem.W.mg_none_of X G z_all⟩
 have b_range:Blt mg "range":=⟨PySem.W.mg_none_of X G z_range⟩
 have b_list:Blt mg "list":=⟨PySem.W.mg_none_of X G z_list⟩
 have b_tuple:Blt mg "tuple":=⟨PySem.W.mg_none_of X G z_tuple⟩
 have b_set:Blt mg "set":=⟨PySem.W.mg_none_of X G z_set⟩
 have b_sorted:Blt mg "sorted":=⟨PySem.W.mg_none_of X G z_sorted⟩
 have b_ValueError:Blt mg "ValueError":=⟨PySem.W.mg_none_of X G z_ValueError⟩
 have gl_LETTERS:Glo mg "LETTERS" (.str abc):=⟨_,PySem.W.mg_of X G g_LETTERS,⟨_,rfl⟩⟩
 have gl_LONGEST_NAME:Glo mg "LONGEST_NAME" (.int 8):=⟨_,PySem.W.mg_of X G g_LONGEST_NAME,⟨_,rfl⟩⟩
 refine ⟨PySem.W.fnOf "law" "law" (defArgs sLaw) (defBody sLaw) (defScope sLaw) .none kV dc pm an cd ct,fun s v=>.of_eq rfl,fun base _ _=>?_⟩
 have T:SeatT K C:=⟨cl_C,n_C_pointer,n_C_waiting,n_C_holder,n_C_asked⟩
 obtain ⟨cs,hcs⟩:∃ cs:Nat->Addr,cs=fun i=>[x0,x1,x2,x3,x4,x5,x6,x7,x8,x9,x10,x11].getD i 0:=⟨_,rfl⟩
 have kn:Kn K mg cs:=by
  subst hcs
  exact ⟨⟨_,PySem.W.mg_of X G aX_0,rfl⟩,⟨_,PySem.W.mg_of X G aX_1,rfl⟩,⟨_,PySem.W.mg_of X G aX_2,rfl⟩,⟨_,PySem.W.mg_of X G aX_3,rfl⟩,⟨_,PySem.W.mg_of X G aX_4,rfl⟩,⟨_,PySem.W.mg_of X G aX_5,rfl⟩,⟨_,PySem.W.mg_of X G aX_6,rfl⟩,⟨_,PySem.W.mg_of X G aX_7,rfl⟩,⟨_,PySem.W.mg_of X G aX_8,rfl⟩,⟨_,PySem.W.mg_of X G aX_9,rfl⟩,⟨_,PySem.W.mg_of X G aX_10,rfl⟩,⟨_,PySem.W.mg_of X G aX_11,rfl⟩,fun i j hi hj=>tab_kd xtab hi hj,fun i hi=>tab_kv xtab hi,fun i hi=>all_ek xall hi⟩
 have exA:ExcC K mg "NoAsker" (cs 3):=by
  subst hcs
  exact ⟨PySem.W.mg_of X G aX_3,tab_ok xtab (i:=3) (by decide) (by decide)⟩
 have exH:ExcC K mg "NoHouse" (cs 1):=by
  subst hcs
  exact ⟨PySem.W.mg_of X G aX_1,tab_ok xtab (i:=1) (by decide) (by decide)⟩
 have exL:ExcC K mg "NoLetter" (cs 4):=by
  subst hcs
  exact ⟨PySem.W.mg_of X G aX_4,tab_ok xtab (i:=4) (by decide) (by decide)⟩
 have hex:∀ i,i < 12->PySem.W.exmOne K (.ref (cs i)) (.ref x12)=some true:=by
  subst hcs
  exact fun i hi=>tab_ex xtab hi
 have mgT:=PySem.W.mg_of X G aX_12
 have CI:=okName (P:=l.prog) (w:=w) (base:=base) GI b_isinstance b_str b_len b_all gl_LETTERS gl_LONGEST_NAME
 have CCA:=okChkAX GCA CI exA
 have CCH:=okChkHX GCH CI exH
 have MS:=okServe (P:=l.prog) (w:=w) (base:=base) T mS b_len
 have MM:=okMove T mM MS
 have MW:=okWantX T mW CCA MM exA
 have ML:=okLeaveX T mL CCA MM exA
 have MD:=okDoneX T mD CCA MM exA
 have MAs:=okAskX T mAs CCH MM exL
 have MC:=okComeX T mC CCH MM exL b_isinstance b_bool
 have MA:=okArrow (P:=l.prog) (w:=w) (mg:=mg) (base:=base) T mA
 have MR:=okRow (P:=l.prog) (w:=w) (mg:=mg) (base:=base) T mR b_list
 have MIn:=okInside (P:=l.prog) (w:=w) (mg:=mg) (base:=base) T mIn
 have MH:=okHas (P:=l.prog) (w:=w) (mg:=mg) (base:=base) T mH
 have MK:MkCal l.prog w K mg base CX0 2 C "Seat" ["self","arrow"] (spInit C):=⟨_,_,okInit T mIF CI,mIM,mg_C,mIB⟩
 have CM:=okMixed (P:=l.prog) (w:=w) (base:=base) GM
 have CD:=okDigits (P:=l.prog) (w:=w) (base:=base) GD
 have CN:=okNext GN CM
 have CC:=okCell (P:=l.prog) (w:=w) (base:=base) GC b_len
 have CNa:=okNames GNa CN b_range
 have CA:=okAlike (P:=l.prog) (w:=w) (base:=base) GAl b_isinstance b_list b_tuple b_bool b_len b_all b_range 4
 have CKH:=okKindsH (P:=l.prog) (w:=w) (base:=base) kn GK b_isinstance b_len b_range b_ValueError
 have CP:=okPutX T GP MW ML MD MAs MC
 have CAs:=okAsked GAs CP CKH mgT hex
 have CO:=okOdd GO CN b_len
 have CPo:=okPools GPo CD CN CNa
 have CG:=okGood (P:=l.prog) (w:=w) (base:=base) GG
 have CS:=okState (P:=l.prog) (w:=w) (base:=base) GS
 have CMo:=okMoved (P:=l.prog) (w:=w) (base:=base) GMo
 have CB:=okBad (P:=l.prog) (w:=w) (base:=base) GB b_isinstance b_bool b_int
 have CMa:=okMade GMa CMo
 have CT:=okTold T GT MA MR MIn MH
 have CW:=okWhy GW CB b_isinstance b_str b_len b_all b_int
 have CDo:=okDoors GDo CO b_sorted b_set b_range
 exact okLaw T FL CC CD CN CPo CS CG CDo CW CMa CP CAs CA CT MK b_len b_list b_range
theorem walk {l:PySem.W.OpenLaw} {q:Program} {loose:List Str} {XP:(Str->Option Value)->Heap->Prop} {YP:World->Heap->Prop} {d:DefRec} {K:Params->PySem.W.Frag} (hn:l.most=some 63) (hdf:d.params.defaults=[])
  (hY:∀ (w:World) (h:Heap),YP w h->(K w.params).In h)
  (F:∀ (w:World) (mg:Str->Option Value) (fa:Addr) (h:Heap),(K w.params).In h->h.Ns mainGlobals mg->mg d.name=some (.ref fa) ->
   ∃ fd:FuncData,(∀ (s:Shared) (u:Value),BindsTo s fd ⟨[u],[]⟩ [("_law_script",u)])/\∀ base:Heap,(K w.params).In base->base.Ns mainGlobals mg->FnOk l.prog w (K w.params) mg base CX0 6 fa fd ["_law_script"] (spLaw (K w.params))) :
  PySem.W.WalkO q loose XP YP l.row.toRowW d [] (fun f vs=>PySem.call f vs):=
 L2.walk_of (n:=63) (k:=6) (x:="_law_script") (CX:=fun _=>CX0) (sp:=fun w=>spLaw (K w.params)) hn (by decide) hdf ⟨rfl,by decide,by decide⟩ hY F (fun _ _ a ns hl _ hS=>⟨a,ns,rfl,hS,hl,fun _=>rfl⟩) fun _ _ _ _ _ z=>z
end K15
open PySem PySem.W PyProof.Rows
set_option maxRecDepth 100000 in
set_option maxHeartbeats 0 in
theorem PySem.Challenge.cw_treeright_k15_refused_at_all_doors_holds : PySem.Challenge.rw_treeright_k15_refused_at_all_doors.Holds := by
 refine head ?_
 k_fill
 refine K15.walk (l:=PySem.Challenge.rw_treeright_k15_refused_at_all_doors) rfl rfl (fun w h Y=>PySem.W.kIn_of Y) ?F
 case F=>
  intro w mg fa h KX G hmg
  refine' K15.all_mk KX G hmg ?l0 ?l1 ?l2 ?l3 ?l4 ?l5 ?l6 ?l7 ?l8 ?l9 ?l10 ?l11 ?l12 ?l13 ?l14 ?l15 ?l16 ?l17 ?l18 ?l19 ?l20 ?l21 ?aL ?lL ?k_C ?mC0 ?mC1 ?mC2 ?mC3 ?mC4 ?mC5 ?mC6 ?mC7 ?mC8 ?mC9 ?mC10 ?mC11 ?n_C_pointer ?n_C_waiting ?n_C_holder ?n_C_asked ?z_isinstance ?z_str ?z_int ?z_bool ?z_len ?z_all ?z_range ?z_list ?z_tuple ?z_set ?z_sorted ?z_ValueError ?g_LETTERS ?g_LONGEST_NAME ?aX_0 ?aX_1 ?aX_2 ?aX_3 ?aX_4 ?aX_5 ?aX_6 ?aX_7 ?aX_8 ?aX_9 ?aX_10 ?aX_11 ?aX_12 ?xtab ?xall
  (case aL=>k_is)
  (case lL=>exact ⟨_,_,_,_,_,_,_,_,_,by k_is,by k_is,by k_is⟩)
  (case l0 | l1 | l2 | l3 | l4 | l5 | l6 | l7 | l8 | l9 | l10 | l11 | l12 | l13 | l14 | l15 | l16 | l17 | l18 | l19 | l20 | l21=>exact ⟨_,by k_is,_,_,_,_,_,_,_,_,_,by k_is,by k_is,by k_is⟩)
  (case k_C=>exact ⟨by k_is,by k_is,by k_is,by k_is,by k_is,by k_is,by k_is⟩)
  (case mC0 | mC1 | mC2 | mC3 | mC4 | mC5 | mC6 | mC7 | mC8 | mC9 | mC10 | mC11=>exact ⟨_,by k_is,by k_is,_,_,_,_,_,_,_,_,_,by k_is,by k_is,by k_is⟩)
  (case n_C_pointer | n_C_waiting | n_C_holder | n_C_asked | z_isinstance | z_str | z_int | z_bool | z_len | z_all | z_range | z_list | z_tuple | z_set | z_sorted | z_ValueError | g_LETTERS | g_LONGEST_NAME=>k_is)
  (case aX_0=>k_is)
  (case aX_1=>k_is)
  (case aX_2=>k_is)
  (case aX_3=>k_is)
  (case aX_4=>k_is)
  (case aX_5=>k_is)
  (case aX_6=>k_is)
  (case aX_7=>k_is)
  (case aX_8=>k_is)
  (case aX_9=>k_is)
  (case aX_10=>k_is)
  (case aX_11=>k_is)
  (case aX_12=>k_is)
  (case xtab=>kernel_rfl)
  (case xall=>kernel_rfl)
